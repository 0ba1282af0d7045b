/- The law PointAsks. -/
import Derived.Test.YtnkdbpbfapdfeaaDu
namespace Go.Proofs.Ytnkdbpbfapdfeaa
open Go.RowKit

theorem srt_le (P : List (Int × Int)) (i j : Nat) (hij : i ≤ j) (hj : j < (srt P).length) : lessB (At (srt P) j).1 (At (srt P) j).2 (At (srt P) i).1 (At (srt P) i).2 = false := by
  rcases Nat.eq_or_lt_of_le hij with rfl | hlt
  · exact lessB_f.2 (by omega)
  · have := List.pairwise_iff_getElem.1 (srt_pw P) i j (by omega) hj hlt
    unfold At
    rw [List.getElem?_eq_getElem hj, List.getElem?_eq_getElem (by omega)]
    exact this
theorem cut_a (P : List (Int × Int)) (fr fc : Int) : ∃ r, r ≤ (srt P).length ∧ (∀ i, i < r → lessB (At (srt P) i).1 (At (srt P) i).2 fr fc = true) ∧ (∀ i, r ≤ i → i < (srt P).length → lessB (At (srt P) i).1 (At (srt P) i).2 fr fc = false) := by
  obtain ⟨r, h1, h2, h3⟩ := firstP (fun p => !lessB p.1 p.2 fr fc) (srt P)
  refine ⟨r, h1, fun i hi => by simpa using h2 i hi, fun i hi hl => ?_⟩
  have h4 := h3 (by omega)
  have h5 := srt_le P r i hi hl
  have h4 : lessB (At (srt P) r).1 (At (srt P) r).2 fr fc = false := by simpa using h4
  have h4 := lessB_f.1 h4
  have h5 := lessB_f.1 h5
  exact lessB_f.2 (by omega)
theorem cut_n (P : List (Int × Int)) (fr fc : Int) : ∃ r, r ≤ (srt P).length ∧ (∀ i, i < r → lessB fr fc (At (srt P) i).1 (At (srt P) i).2 = false) ∧ (∀ i, r ≤ i → i < (srt P).length → lessB fr fc (At (srt P) i).1 (At (srt P) i).2 = true) := by
  obtain ⟨r, h1, h2, h3⟩ := firstP (fun p => lessB fr fc p.1 p.2) (srt P)
  refine ⟨r, h1, h2, fun i hi hl => ?_⟩
  have h4 := lessB_t.1 (h3 (by omega))
  have h5 := lessB_f.1 (srt_le P r i hi hl)
  exact lessB_t.2 (by omega)
/-- What the loop knows behind the first i. -/
def nxV (S : List (Int × Int)) (rN i : Nat) : (Int × Int) × Bool := if rN < i then (At S rN, true) else ((0, 0), false)
def ahV (S : List (Int × Int)) (rA i : Nat) : (Int × Int) × Bool := if i ≤ rA then pk S ((i : Int) - 1) else pk S ((rA : Int) - 1)
theorem nxV_end (S : List (Int × Int)) (rN : Nat) : nxV S rN S.length = pk S rN := by
  unfold nxV pk
  by_cases h : rN < S.length
  · rw [if_pos h, if_pos (by omega)]; rfl
  · rw [if_neg h, if_neg (by omega)]
theorem ahV_end (S : List (Int × Int)) (rA : Nat) (h : rA ≤ S.length) : ahV S rA S.length = pk S ((rA : Int) - 1) := by
  unfold ahV
  by_cases h1 : S.length ≤ rA
  · obtain rfl : S.length = rA := by omega
    rw [if_pos h1]
  · rw [if_neg h1]
theorem ahV_yes (S : List (Int × Int)) (rA i : Nat) (h : i < rA) (h2 : i < S.length) : ahV S rA (i + 1) = (At S i, true) := by
  unfold ahV pk
  rw [if_pos (by omega), if_pos (by omega)]
  congr 2
  omega
theorem ahV_no (S : List (Int × Int)) (rA i : Nat) (h : rA ≤ i) : ahV S rA (i + 1) = ahV S rA i := by
  unfold ahV
  rw [if_neg (by omega)]
  by_cases h1 : i ≤ rA
  · obtain rfl : i = rA := by omega
    rw [if_pos h1]
  · rw [if_neg h1]
theorem nxV_yes (S : List (Int × Int)) (rN : Nat) : nxV S rN (rN + 1) = (At S rN, true) := if_pos (Nat.lt_succ_self _)
theorem nxV_low (S : List (Int × Int)) (rN i : Nat) (h : i < rN) : nxV S rN (i + 1) = nxV S rN i := by
  unfold nxV
  rw [if_neg (by omega), if_neg (by omega)]
theorem nxV_high (S : List (Int × Int)) (rN i : Nat) (h : rN < i) : nxV S rN (i + 1) = nxV S rN i := by
  unfold nxV
  rw [if_pos (by omega), if_pos h]
def bxP (x : (Int × Int) × Bool) : Obj := .cells #[.int .i64 x.1.1, .int .i64 x.1.2] 30 (0, 0)
/-- The two boxes of the loop, and what else may have turned. -/
structure ST (w5 W : World) (B : Nat) (nv av : (Int × Int) × Bool) : Prop where
  n : W.heap[B]? = some (bxP nv)
  a : W.heap[B + 1]? = some (bxP av)
  k : KB (fun i => i = B ∨ i = B + 1) w5 W
theorem ST.past {w5 W W' : World} {B : Nat} {nv av : (Int × Int) × Bool} (h : ST w5 W B nv av) (hb : Below W.heap.size W W') : ST w5 W' B nv av :=
  ⟨keep hb h.n, keep hb h.a, h.k.trans (KB.of_below (S := fun _ => False) hb) fun _ _ e => e.elim⟩
theorem ST.cells {w5 W : World} {B : Nat} {nv av : (Int × Int) × Bool} (h : ST w5 W B nv av) :
    (W.cell? ⟨B, 0, none⟩ = some (.int .i64 nv.1.1) ∧ W.cell? ⟨B, 1, none⟩ = some (.int .i64 nv.1.2) ∧ (∀ k, W.frozen? ⟨B, k, none⟩ = false) ∧ B < W.heap.size) ∧ (W.cell? ⟨B + 1, 0, none⟩ = some (.int .i64 av.1.1) ∧ W.cell? ⟨B + 1, 1, none⟩ = some (.int .i64 av.1.2) ∧ (∀ k, W.frozen? ⟨B + 1, k, none⟩ = false) ∧ B + 1 < W.heap.size) :=
  ⟨⟨cell_of_row _ _ 0 _ _ _ h.n, cell_of_row _ _ 1 _ _ _ h.n, unfrozen_of h.n, (Array.getElem?_eq_some_iff.1 h.n).1⟩, ⟨cell_of_row _ _ 0 _ _ _ h.a, cell_of_row _ _ 1 _ _ _ h.a, unfrozen_of h.a, (Array.getElem?_eq_some_iff.1 h.a).1⟩⟩
theorem ST.setN {w5 W : World} {B : Nat} {nv av : (Int × Int) × Bool} (h : ST w5 W B nv av) (x : Int × Int) : ST w5 ((W.setCell ⟨B, 0, none⟩ (.int .i64 x.1)).setCell ⟨B, 1, none⟩ (.int .i64 x.2)) B (x, true) av := by
  have h1 := heap_setCell_same W B 0 _ _ (.int .i64 x.1) h.n
  have h2 := heap_setCell_same _ B 1 _ _ (.int .i64 x.2) h1
  have hne : B + 1 ≠ B := by omega
  exact ⟨h2, ((heap_setCell_other _ ⟨B, 1, none⟩ (B + 1) _ hne).trans (heap_setCell_other _ ⟨B, 0, none⟩ (B + 1) _ hne)).trans h.a, (h.k.trans (KB.set (S := fun i => i = B) 0 _ rfl) fun _ _ e => .inl e).trans (KB.set (S := fun i => i = B) 1 _ rfl) fun _ _ e => .inl e⟩
theorem ST.setA {w5 W : World} {B : Nat} {nv av : (Int × Int) × Bool} (h : ST w5 W B nv av) (x : Int × Int) : ST w5 ((W.setCell ⟨B + 1, 0, none⟩ (.int .i64 x.1)).setCell ⟨B + 1, 1, none⟩ (.int .i64 x.2)) B nv (x, true) := by
  have h1 := heap_setCell_same W (B + 1) 0 _ _ (.int .i64 x.1) h.a
  have h2 := heap_setCell_same _ (B + 1) 1 _ _ (.int .i64 x.2) h1
  have hne : B ≠ B + 1 := by omega
  exact ⟨((heap_setCell_other _ ⟨B + 1, 1, none⟩ B _ hne).trans (heap_setCell_other _ ⟨B + 1, 0, none⟩ B _ hne)).trans h.n, h2, (h.k.trans (KB.set (S := fun i => i = B + 1) 0 _ rfl) fun _ _ e => .inr e).trans (KB.set (S := fun i => i = B + 1) 1 _ rfl) fun _ _ e => .inr e⟩
set_option maxRecDepth 100000 in
set_option maxHeartbeats 16000000 in
theorem pointAsks_law (z : Int) (hz : 0 ≤ z ∧ z < 256) (A : Option Addr) (xs : List Opn) (n c : Nat) (hn : n = xs.length) (fr fc : Int) (w : World) (hR : RK encO 6 w A xs) :
    Calls Try.prog 5 #[.int .u8 z, .slice A n c, .agg #[.int .i64 fr, .int .i64 fc]] w fun e w' => e = .returned (.bool true) ∧ Below w.heap.size w w' := by
  have HA := Lib.hid (fun W => awake_any W)
  by_cases hbig : 60 < n
  · have hb : (60 : Int) < n := by omega
    clear hR hn
    go_enter Try.func5, Try.ntmps5
    go_wp2_with (go_at_call 8; (with_reducible refine (HA.out _).mono ?_); rintro e w1 ⟨rfl, hb1⟩; have HB1 := Lib.hid (bel0 (belA (Below.refl w.heap.size w) _) hb1); clear hb1)
    go_ret
    exact ⟨rfl, HB1.out⟩
  · have hb : ¬ (60 : Int) < n := by omega
    have hzb := lt_u8 z
    have HMD := Lib.hid (fun W (hW : Below (w.alloc (.cells #[.int .i64 fr, .int .i64 fc] 30)).heap.size (w.alloc (.cells #[.int .i64 fr, .int .i64 fc] 30)) W) => made_any (w.alloc (.cells #[.int .i64 fr, .int .i64 fc] 30)) W hW z hz _ rfl)
    have HR := Lib.hid (hR.past (belA (Below.refl _ _) (.cells #[.int .i64 fr, .int .i64 fc] 30)))
    have HN := Lib.hid hn
    have HB0 : Hid (Below w.heap.size w (w.alloc (.cells #[.int .i64 fr, .int .i64 fc] 30))) := Lib.hid (belA (Below.refl _ _) _)
    have HBX := Lib.hid (heap_alloc_new w (.cells #[.int .i64 fr, .int .i64 fc] 30))
    clear hR hn
    generalize z % 30 + 1 = mz at *
    go_enter Try.func5, Try.ntmps5
    go_wp2_with (first
      | (go_at_call 8; (with_reducible refine (HA.out _).mono ?_); rintro e w1 ⟨rfl, hb1⟩; have HB1 := Lib.hid hb1; clear hb1)
      | (go_at_call 9; (with_reducible refine (HMD.out _ HB1.out).mono ?_); rintro e w2 ⟨D, M, rfl, ht⟩; have HT2 := Lib.hid ht; clear ht))
    generalize w.alloc (.cells #[.int .i64 fr, .int .i64 fc] 30) = wa at *
    go_loopw [9] (fun q wr => ∃ i : Nat, q = .int .i64 i ∧ i ≤ n ∧ Hid (∃ P L next, T2 wa wr D M mz P L next ∧ next ≤ i)) (fun q _ => n - (intOf q).toNat)
    case atStart => exact ⟨0, rfl, Nat.zero_le _, Lib.hid ⟨[], [], 0, HT2.out, Nat.le_refl _⟩⟩
    case round =>
      obtain ⟨i, rfl, hi, HO⟩ := hrel
      by_cases hlt : i < n
      · have hii : (i : Int) < n := by omega
        obtain ⟨P, L, next, ht, hnx⟩ := HO.out
        obtain ⟨b, off, rfl, hG⟩ := HR.out.op (fun e => by have := HN.out; rw [e] at this; simp at this; omega)
        obtain ⟨G0, GA⟩ := hG _ ht.1.choose_spec.b
        obtain ⟨z0, z1, z2, z3, z4, z5⟩ := GA i (by have := HN.out; omega)
        have HD := Lib.hid (does_any wa wr D M mz P L next ht hzb.1 (by omega) (by omega) (Oz xs i).1 (Oz xs i).2.1 (Oz xs i).2.2.1 (Oz xs i).2.2.2.1 (Oz xs i).2.2.2.2.1 (Oz xs i).2.2.2.2.2)
        clear ht hG GA HO
        generalize Oz xs i = x at *
        unfold DPost at HD
        go_wp2_with (go_at_call 10; (with_reducible refine (HD.out).mono ?_); rintro e w3 ⟨rfl, P3, L3, next3, ht3, hn3⟩; have HT3 := Lib.hid ht3; clear ht3)
        go_roundw
        case rel => exact ⟨i + 1, by go_num, hlt, Lib.hid ⟨P3, L3, next3, HT3.out, by omega⟩⟩
        case measure => simp [intOf]; omega
      · obtain rfl : i = n := by omega
        have hii : ¬ (i : Int) < i := by omega
        obtain ⟨P, L, next, ht, hnx⟩ := HO.out
        obtain ⟨⟨v, ht0⟩, hrel, hnc, hlen⟩ := ht
        obtain ⟨u, hq⟩ := ht0.m
        have hLl := hrel.len
        have hls := hrel.list
        have HRL : Hid (∀ W, Below wr.heap.size wr W → Calls Try.prog 14 #[.pointer (some ⟨M, 0, none⟩)] W fun e w' => ∃ A c, e = .returned (.slice A (srt P).length c) ∧ Below W.heap.size W w' ∧ RPl w' w'.heap.size A (srt P) ∧ ∀ b off, A = some ⟨b, off, none⟩ → W.heap.size ≤ b) := Lib.hid fun W hW => by
          have := rlist_low (hq.past hW) (by omega)
          rwa [hls, hLl, ← srt_len P] at this
        obtain ⟨rA, ra1, ra2, ra3⟩ := cut_a P fr fc
        obtain ⟨rN, rn1, rn2, rn3⟩ := cut_n P fr fc
        have hSl : (srt P).length ≤ 1000 := by rw [srt_len]; omega
        have HNX : Hid (∀ W, PM W D v mz P → Calls Try.prog 20 #[.pointer (some ⟨D, 0, none⟩), .agg #[.int .i64 fr, .int .i64 fc]] W fun e w' => e = .returned (.tuple #[.agg #[.int .i64 (pk (srt P) (rN : Int)).1.1, .int .i64 (pk (srt P) (rN : Int)).1.2], .bool (pk (srt P) (rN : Int)).2]) ∧ Below W.heap.size W w') := Lib.hid fun W h =>
          next_of _ (srt P) hSl W (fun W' hW' => by have := list_any (h.past hW') (by omega); rwa [← srt_len P] at this) fr fc rN rn1 rn2 rn3
        have HAH : Hid (∀ W, PM W D v mz P → Calls Try.prog 21 #[.pointer (some ⟨D, 0, none⟩), .agg #[.int .i64 fr, .int .i64 fc]] W fun e w' => e = .returned (.tuple #[.agg #[.int .i64 (pk (srt P) ((rA : Int) - 1)).1.1, .int .i64 (pk (srt P) ((rA : Int) - 1)).1.2], .bool (pk (srt P) ((rA : Int) - 1)).2]) ∧ Below W.heap.size W w') := Lib.hid fun W h =>
          ahead_of _ (srt P) hSl W (fun W' hW' => by have := list_any (h.past hW') (by omega); rwa [← srt_len P] at this) fr fc rA ra1 (fun i hi => by rw [ra2 i hi]; rfl) (fun i h1 h2 => by rw [ra3 i h1 h2]; rfl)
        have HRA2 := Lib.hid ra2
        have HRA3 := Lib.hid ra3
        have HRN2 := Lib.hid rn2
        have HRN3 := Lib.hid rn3
        have HS := Lib.hid ht0.s
        have HBW := Lib.hid ht0.b
        have HSB : Hid (∀ g, v.ownBlock = some g → g < wr.heap.size) := Lib.hid fun g hg => (ht0.s.row.lt g hg).1
        have HDl := Lib.hid ht0.s.lt
        have hEn := nxV_end (srt P) rN
        have hEa := ahV_end (srt P) rA ra1
        have HEn := Lib.hid hEn
        have HEa := Lib.hid hEa
        clear ht0 hrel hnc hlen hq hls hLl ra2 ra3 rn2 rn3 hEn hEa HO
        generalize srt P = S at *
        go_wp2_with (go_at_call 14; (with_reducible refine (HRL.out _ (belA (belA (Below.refl _ _) _) _)).mono ?_); rintro e w5 ⟨A5, c5, rfl, hb5, hr5, hlow⟩; have HB5 := Lib.hid hb5; have HR5 := Lib.hid hr5; have HLOW := Lib.hid hlow; clear hb5 hr5 hlow)
        have HB35 : Hid (Below wr.heap.size wr w5) := Lib.hid (bel0 (belA (belA (Below.refl _ _) _) _) HB5.out)
        have HS5 := Lib.hid (HS.out.past HB35.out)
        have HBW5 := Lib.hid (bel0 HBW.out HB35.out)
        have HQ5 := Lib.hid (keep HBW5.out HBX.out)
        have hq5l := (Array.getElem?_eq_some_iff.1 HBX.out).1
        have hwas := HBW.out.size
        have HX10 : Hid (w5.heap[wr.heap.size]? = some (bxP ((0, 0), false))) := Lib.hid (keep HB5.out (old1 (heap_alloc_new wr _)))
        have HX11 : Hid (w5.heap[wr.heap.size + 1]? = some (bxP ((0, 0), false))) := Lib.hid (by
          have g := keep HB5.out (heap_alloc_new (wr.alloc (.cells #[.int .i64 0, .int .i64 0] 30)) (.cells #[.int .i64 0, .int .i64 0] 30))
          rwa [World.size_alloc] at g)
        have HLO : Hid (∀ b off, A5 = some ⟨b, off, none⟩ → wr.heap.size + 2 ≤ b) := Lib.hid fun b off e => by
          have := HLOW.out b off e
          simpa using this
        have hDl := HDl.out
        clear HLOW HB5 HB35 HRL HDl
        generalize wr.heap.size = B at *
        generalize hQ : w.heap.size = Q at *
        have HQE := Lib.hid hQ
        clear hQ
        go_loopw [12, 13, 15] (fun p q t wr => ∃ i : Nat, p = .bool (nxV S rN i).2 ∧ q = .bool (ahV S rA i).2 ∧ t = .int .i64 i ∧ i ≤ S.length ∧ Hid (wr.heap[B]? = some (bxP (nxV S rN i))) ∧ Hid (wr.heap[B + 1]? = some (bxP (ahV S rA i))) ∧ Hid (KB (fun i => i = B ∨ i = B + 1) w5 wr)) (fun _ _ t _ => S.length - (intOf t).toNat)
        case atStart => exact ⟨0, rfl, (by simp [ahV, pk]), rfl, Nat.zero_le _, HX10, Lib.hid (by have := HX11.out; simpa [ahV, pk] using this), Lib.hid (KB.refl _ _)⟩
        case round =>
          obtain ⟨i, rfl, rfl, rfl, hi2, HN2, HA2, HKB⟩ := hrel
          have hbx : wr.heap[Q]? = _ := (HKB.out.block Q (Nat.lt_of_lt_of_le hq5l HBW5.out.size) (fun e => by omega)).trans HQ5.out
          have f0 := cell_of_row _ _ 0 _ _ _ hbx
          have f1 := cell_of_row _ _ 1 _ _ _ hbx
          have fl := (Array.getElem?_eq_some_iff.1 hbx).1
          have n0 := cell_of_row _ _ 0 _ _ _ HN2.out
          have n1 := cell_of_row _ _ 1 _ _ _ HN2.out
          have nf := unfrozen_of HN2.out
          have nl := (Array.getElem?_eq_some_iff.1 HN2.out).1
          have a0 := cell_of_row _ _ 0 _ _ _ HA2.out
          have a1 := cell_of_row _ _ 1 _ _ _ HA2.out
          have af := unfrozen_of HA2.out
          have al := (Array.getElem?_eq_some_iff.1 HA2.out).1
          by_cases hlt : i < S.length
          · have hii2 : (i : Int) < S.length := by omega
            obtain ⟨b, off, rfl, hG⟩ := HR5.out.at (fun e => by rw [e] at hlt; simp at hlt)
            have hb2 := HLO.out b off rfl
            obtain ⟨G0, GA⟩ := hG _ (Below.refl _ _)
            obtain ⟨y0, y1⟩ := GA i hlt
            have hcl : ∀ o, wr.cell? ⟨b, o, none⟩ = w5.cell? ⟨b, o, none⟩ := fun o => World.cell?_of_block (a := ⟨b, o, none⟩) (HKB.out.block b G0 (fun e => by omega))
            have z0 := (hcl _).trans y0
            have z1 := (hcl _).trans y1
            have hbl : b < wr.heap.size := Nat.lt_of_lt_of_le G0 HKB.out.size
            have hst : ST w5 wr B (nxV S rN i) (ahV S rA i) := ⟨HN2.out, HA2.out, HKB.out⟩
            have HFACT : Hid (∀ W, KB (fun i => i = B ∨ i = B + 1) w5 W → (W.cell? ⟨Q, 0, none⟩ = some (.int .i64 fr) ∧ W.cell? ⟨Q, 1, none⟩ = some (.int .i64 fc) ∧ Q < W.heap.size) ∧ (W.cell? ⟨b, off + i * 2, none⟩ = some (.int .i64 (At S i).1) ∧ W.cell? ⟨b, off + i * 2 + 1, none⟩ = some (.int .i64 (At S i).2) ∧ b < W.heap.size)) := Lib.hid fun W hW => by
              have g : W.heap[Q]? = _ := (hW.block Q (Nat.lt_of_lt_of_le hq5l HBW5.out.size) (fun e => by omega)).trans HQ5.out
              have hcl : ∀ o, W.cell? ⟨b, o, none⟩ = w5.cell? ⟨b, o, none⟩ := fun o => World.cell?_of_block (a := ⟨b, o, none⟩) (hW.block b G0 (fun e => by omega))
              exact ⟨⟨cell_of_row _ _ 0 _ _ _ g, cell_of_row _ _ 1 _ _ _ g, (Array.getElem?_eq_some_iff.1 g).1⟩, (hcl _).trans y0, (hcl _).trans y1, Nat.lt_of_lt_of_le G0 hW.size⟩
            clear hbx hcl hG GA y0 y1 G0 HN2 HA2 HKB
            rcases (by omega : i < rN ∨ i = rN ∨ rN < i) with hc | hc | hc
            · by_cases ha : i < rA
              · have HL1 := Lib.hid (fun W => refLess_as (At S i).1 (At S i).2 fr fc true (HRA2.out i ha) W)
                have HAV := Lib.hid (ahV_yes S rA i ha hlt)
                have HL2 := Lib.hid (fun W => refLess_as fr fc (At S i).1 (At S i).2 false (HRN2.out i hc) W)
                have HNV := Lib.hid (nxV_low S rN i hc)
                have hnb : (nxV S rN i).2 = false := (by unfold nxV; rw [if_neg (by omega)])
                clear hc
                have HST := Lib.hid hst
                clear hst f0 f1 fl n0 n1 nf nl a0 a1 af al z0 z1 hbl ha
                obtain ⟨⟨f0, f1, fl⟩, ⟨z0, z1, zl⟩⟩ := HFACT.out _ HST.out.k
                generalize At S i = x at *
                rw [hnb]
                go_wp2_with fail
                go_still_tail 5, (by kernel_rfl)
                change wpList _ _ _ _ _ wr.drew
                have HSTd := Lib.hid (HST.out.past (Below.refl _ _).drew)
                clear f0 f1 fl z0 z1 zl
                generalize hDR : wr.drew = wt at *
                clear hDR
                go_wp2_with (go_at_call 19; (with_reducible refine (HL1.out _).mono ?_); rintro e w6 ⟨rfl, hb6⟩; have HST6 := Lib.hid (HSTd.out.past hb6); obtain ⟨⟨f0, f1, fl⟩, ⟨z0, z1, zl⟩⟩ := HFACT.out _ HST6.out.k; obtain ⟨⟨n0, n1, nf, nl⟩, ⟨a0, a1, af, al⟩⟩ := HST6.out.cells; clear hb6)
                have HST7 := Lib.hid (HST6.out.setA x)
                clear f0 f1 fl z0 z1 zl n0 n1 nf nl a0 a1 af al
                generalize (w6.setCell ⟨B + 1, 0, none⟩ (.int .i64 x.1)).setCell ⟨B + 1, 1, none⟩ (.int .i64 x.2) = w7 at *
                obtain ⟨⟨f0, f1, fl⟩, ⟨z0, z1, zl⟩⟩ := HFACT.out _ HST7.out.k
                go_still_tail 8, (by kernel_rfl)
                change wpList _ _ _ _ _ w7.drew
                have HSTe := Lib.hid (HST7.out.past (Below.refl _ _).drew)
                clear f0 f1 fl z0 z1 zl
                generalize hDE : w7.drew = wu at *
                clear hDE
                go_wp2_with (go_at_call 19; (with_reducible refine (HL2.out _).mono ?_); rintro e w8 ⟨rfl, hb8⟩; have HST8 := Lib.hid (HSTe.out.past hb8); obtain ⟨⟨f0, f1, fl⟩, ⟨z0, z1, zl⟩⟩ := HFACT.out _ HST8.out.k; obtain ⟨⟨n0, n1, nf, nl⟩, ⟨a0, a1, af, al⟩⟩ := HST8.out.cells; clear hb8)
                have HSTF := HST8
                go_roundw
                case rel => exact ⟨i + 1, (by rw [HNV.out]; exact congrArg Value.bool hnb.symm), (by rw [HAV.out]), by go_num, hlt, Lib.hid (by rw [HNV.out]; exact HSTF.out.n), Lib.hid (by rw [HAV.out]; exact HSTF.out.a), Lib.hid HSTF.out.k⟩
                case measure => simp [intOf]; omega
              · have ha : rA ≤ i := Nat.le_of_not_lt ha
                have HL1 := Lib.hid (fun W => refLess_as (At S i).1 (At S i).2 fr fc false (HRA3.out i ha hlt) W)
                have HAV := Lib.hid (ahV_no S rA i ha)
                have HL2 := Lib.hid (fun W => refLess_as fr fc (At S i).1 (At S i).2 false (HRN2.out i hc) W)
                have HNV := Lib.hid (nxV_low S rN i hc)
                have hnb : (nxV S rN i).2 = false := (by unfold nxV; rw [if_neg (by omega)])
                clear hc
                have HST := Lib.hid hst
                clear hst f0 f1 fl n0 n1 nf nl a0 a1 af al z0 z1 hbl ha
                obtain ⟨⟨f0, f1, fl⟩, ⟨z0, z1, zl⟩⟩ := HFACT.out _ HST.out.k
                generalize At S i = x at *
                rw [hnb]
                go_wp2_with fail
                go_still_tail 5, (by kernel_rfl)
                change wpList _ _ _ _ _ wr.drew
                have HSTd := Lib.hid (HST.out.past (Below.refl _ _).drew)
                clear f0 f1 fl z0 z1 zl
                generalize hDR : wr.drew = wt at *
                clear hDR
                go_wp2_with (go_at_call 19; (with_reducible refine (HL1.out _).mono ?_); rintro e w6 ⟨rfl, hb6⟩; have HST6 := Lib.hid (HSTd.out.past hb6); obtain ⟨⟨f0, f1, fl⟩, ⟨z0, z1, zl⟩⟩ := HFACT.out _ HST6.out.k; obtain ⟨⟨n0, n1, nf, nl⟩, ⟨a0, a1, af, al⟩⟩ := HST6.out.cells; clear hb6)
                have HST7 := HST6
                clear f0 f1 fl z0 z1 zl n0 n1 nf nl a0 a1 af al
                generalize hW7 : w6 = w7 at *
                clear hW7
                obtain ⟨⟨f0, f1, fl⟩, ⟨z0, z1, zl⟩⟩ := HFACT.out _ HST7.out.k
                go_still_tail 8, (by kernel_rfl)
                change wpList _ _ _ _ _ w7.drew
                have HSTe := Lib.hid (HST7.out.past (Below.refl _ _).drew)
                clear f0 f1 fl z0 z1 zl
                generalize hDE : w7.drew = wu at *
                clear hDE
                go_wp2_with (go_at_call 19; (with_reducible refine (HL2.out _).mono ?_); rintro e w8 ⟨rfl, hb8⟩; have HST8 := Lib.hid (HSTe.out.past hb8); obtain ⟨⟨f0, f1, fl⟩, ⟨z0, z1, zl⟩⟩ := HFACT.out _ HST8.out.k; obtain ⟨⟨n0, n1, nf, nl⟩, ⟨a0, a1, af, al⟩⟩ := HST8.out.cells; clear hb8)
                have HSTF := HST8
                go_roundw
                case rel => exact ⟨i + 1, (by rw [HNV.out]; exact congrArg Value.bool hnb.symm), (by rw [HAV.out]), by go_num, hlt, Lib.hid (by rw [HNV.out]; exact HSTF.out.n), Lib.hid (by rw [HAV.out]; exact HSTF.out.a), Lib.hid HSTF.out.k⟩
                case measure => simp [intOf]; omega
            · by_cases ha : i < rA
              · have HL1 := Lib.hid (fun W => refLess_as (At S i).1 (At S i).2 fr fc true (HRA2.out i ha) W)
                have HAV := Lib.hid (ahV_yes S rA i ha hlt)
                have HL2 := Lib.hid (fun W => refLess_as fr fc (At S i).1 (At S i).2 true (HRN3.out i (by omega) hlt) W)
                have HNV : Hid (nxV S rN (i + 1) = (At S i, true)) := Lib.hid (by rw [hc]; exact nxV_yes S rN)
                have hnb : (nxV S rN i).2 = false := (by unfold nxV; rw [if_neg (by omega)])
                clear hc
                have HST := Lib.hid hst
                clear hst f0 f1 fl n0 n1 nf nl a0 a1 af al z0 z1 hbl ha
                obtain ⟨⟨f0, f1, fl⟩, ⟨z0, z1, zl⟩⟩ := HFACT.out _ HST.out.k
                generalize At S i = x at *
                rw [hnb]
                go_wp2_with fail
                go_still_tail 5, (by kernel_rfl)
                change wpList _ _ _ _ _ wr.drew
                have HSTd := Lib.hid (HST.out.past (Below.refl _ _).drew)
                clear f0 f1 fl z0 z1 zl
                generalize hDR : wr.drew = wt at *
                clear hDR
                go_wp2_with (go_at_call 19; (with_reducible refine (HL1.out _).mono ?_); rintro e w6 ⟨rfl, hb6⟩; have HST6 := Lib.hid (HSTd.out.past hb6); obtain ⟨⟨f0, f1, fl⟩, ⟨z0, z1, zl⟩⟩ := HFACT.out _ HST6.out.k; obtain ⟨⟨n0, n1, nf, nl⟩, ⟨a0, a1, af, al⟩⟩ := HST6.out.cells; clear hb6)
                have HST7 := Lib.hid (HST6.out.setA x)
                clear f0 f1 fl z0 z1 zl n0 n1 nf nl a0 a1 af al
                generalize (w6.setCell ⟨B + 1, 0, none⟩ (.int .i64 x.1)).setCell ⟨B + 1, 1, none⟩ (.int .i64 x.2) = w7 at *
                obtain ⟨⟨f0, f1, fl⟩, ⟨z0, z1, zl⟩⟩ := HFACT.out _ HST7.out.k
                go_still_tail 8, (by kernel_rfl)
                change wpList _ _ _ _ _ w7.drew
                have HSTe := Lib.hid (HST7.out.past (Below.refl _ _).drew)
                clear f0 f1 fl z0 z1 zl
                generalize hDE : w7.drew = wu at *
                clear hDE
                go_wp2_with (go_at_call 19; (with_reducible refine (HL2.out _).mono ?_); rintro e w8 ⟨rfl, hb8⟩; have HST8 := Lib.hid (HSTe.out.past hb8); obtain ⟨⟨f0, f1, fl⟩, ⟨z0, z1, zl⟩⟩ := HFACT.out _ HST8.out.k; obtain ⟨⟨n0, n1, nf, nl⟩, ⟨a0, a1, af, al⟩⟩ := HST8.out.cells; clear hb8)
                have HSTF := (Lib.hid (HST8.out.setN x))
                go_roundw
                case rel => exact ⟨i + 1, (by rw [HNV.out]), (by rw [HAV.out]), by go_num, hlt, Lib.hid (by rw [HNV.out]; exact HSTF.out.n), Lib.hid (by rw [HAV.out]; exact HSTF.out.a), Lib.hid HSTF.out.k⟩
                case measure => simp [intOf]; omega
              · have ha : rA ≤ i := Nat.le_of_not_lt ha
                have HL1 := Lib.hid (fun W => refLess_as (At S i).1 (At S i).2 fr fc false (HRA3.out i ha hlt) W)
                have HAV := Lib.hid (ahV_no S rA i ha)
                have HL2 := Lib.hid (fun W => refLess_as fr fc (At S i).1 (At S i).2 true (HRN3.out i (by omega) hlt) W)
                have HNV : Hid (nxV S rN (i + 1) = (At S i, true)) := Lib.hid (by rw [hc]; exact nxV_yes S rN)
                have hnb : (nxV S rN i).2 = false := (by unfold nxV; rw [if_neg (by omega)])
                clear hc
                have HST := Lib.hid hst
                clear hst f0 f1 fl n0 n1 nf nl a0 a1 af al z0 z1 hbl ha
                obtain ⟨⟨f0, f1, fl⟩, ⟨z0, z1, zl⟩⟩ := HFACT.out _ HST.out.k
                generalize At S i = x at *
                rw [hnb]
                go_wp2_with fail
                go_still_tail 5, (by kernel_rfl)
                change wpList _ _ _ _ _ wr.drew
                have HSTd := Lib.hid (HST.out.past (Below.refl _ _).drew)
                clear f0 f1 fl z0 z1 zl
                generalize hDR : wr.drew = wt at *
                clear hDR
                go_wp2_with (go_at_call 19; (with_reducible refine (HL1.out _).mono ?_); rintro e w6 ⟨rfl, hb6⟩; have HST6 := Lib.hid (HSTd.out.past hb6); obtain ⟨⟨f0, f1, fl⟩, ⟨z0, z1, zl⟩⟩ := HFACT.out _ HST6.out.k; obtain ⟨⟨n0, n1, nf, nl⟩, ⟨a0, a1, af, al⟩⟩ := HST6.out.cells; clear hb6)
                have HST7 := HST6
                clear f0 f1 fl z0 z1 zl n0 n1 nf nl a0 a1 af al
                generalize hW7 : w6 = w7 at *
                clear hW7
                obtain ⟨⟨f0, f1, fl⟩, ⟨z0, z1, zl⟩⟩ := HFACT.out _ HST7.out.k
                go_still_tail 8, (by kernel_rfl)
                change wpList _ _ _ _ _ w7.drew
                have HSTe := Lib.hid (HST7.out.past (Below.refl _ _).drew)
                clear f0 f1 fl z0 z1 zl
                generalize hDE : w7.drew = wu at *
                clear hDE
                go_wp2_with (go_at_call 19; (with_reducible refine (HL2.out _).mono ?_); rintro e w8 ⟨rfl, hb8⟩; have HST8 := Lib.hid (HSTe.out.past hb8); obtain ⟨⟨f0, f1, fl⟩, ⟨z0, z1, zl⟩⟩ := HFACT.out _ HST8.out.k; obtain ⟨⟨n0, n1, nf, nl⟩, ⟨a0, a1, af, al⟩⟩ := HST8.out.cells; clear hb8)
                have HSTF := (Lib.hid (HST8.out.setN x))
                go_roundw
                case rel => exact ⟨i + 1, (by rw [HNV.out]), (by rw [HAV.out]), by go_num, hlt, Lib.hid (by rw [HNV.out]; exact HSTF.out.n), Lib.hid (by rw [HAV.out]; exact HSTF.out.a), Lib.hid HSTF.out.k⟩
                case measure => simp [intOf]; omega
            · by_cases ha : i < rA
              · have HL1 := Lib.hid (fun W => refLess_as (At S i).1 (At S i).2 fr fc true (HRA2.out i ha) W)
                have HAV := Lib.hid (ahV_yes S rA i ha hlt)
                have HNV := Lib.hid (nxV_high S rN i hc)
                have hnb : (nxV S rN i).2 = true := (by unfold nxV; rw [if_pos (by omega)])
                clear hc
                have HST := Lib.hid hst
                clear hst f0 f1 fl n0 n1 nf nl a0 a1 af al z0 z1 hbl ha
                obtain ⟨⟨f0, f1, fl⟩, ⟨z0, z1, zl⟩⟩ := HFACT.out _ HST.out.k
                generalize At S i = x at *
                rw [hnb]
                go_wp2_with fail
                go_still_tail 5, (by kernel_rfl)
                change wpList _ _ _ _ _ wr.drew
                have HSTd := Lib.hid (HST.out.past (Below.refl _ _).drew)
                clear f0 f1 fl z0 z1 zl
                generalize hDR : wr.drew = wt at *
                clear hDR
                go_wp2_with (go_at_call 19; (with_reducible refine (HL1.out _).mono ?_); rintro e w6 ⟨rfl, hb6⟩; have HST6 := Lib.hid (HSTd.out.past hb6); obtain ⟨⟨f0, f1, fl⟩, ⟨z0, z1, zl⟩⟩ := HFACT.out _ HST6.out.k; obtain ⟨⟨n0, n1, nf, nl⟩, ⟨a0, a1, af, al⟩⟩ := HST6.out.cells; clear hb6)
                have HST7 := Lib.hid (HST6.out.setA x)
                clear f0 f1 fl z0 z1 zl n0 n1 nf nl a0 a1 af al
                generalize (w6.setCell ⟨B + 1, 0, none⟩ (.int .i64 x.1)).setCell ⟨B + 1, 1, none⟩ (.int .i64 x.2) = w7 at *
                obtain ⟨⟨f0, f1, fl⟩, ⟨z0, z1, zl⟩⟩ := HFACT.out _ HST7.out.k
                go_quiet (fail)
                have HST8 := Lib.hid (HST7.out.past (belN' w7 nq))
                clear f0 f1 fl z0 z1 zl
                generalize w7.drewN nq = w8 at *
                go_wp2
                have HSTF := HST8
                go_roundw
                case rel => exact ⟨i + 1, (by rw [HNV.out]; exact congrArg Value.bool hnb.symm), (by rw [HAV.out]), by go_num, hlt, Lib.hid (by rw [HNV.out]; exact HSTF.out.n), Lib.hid (by rw [HAV.out]; exact HSTF.out.a), Lib.hid HSTF.out.k⟩
                case measure => simp [intOf]; omega
              · have ha : rA ≤ i := Nat.le_of_not_lt ha
                have HL1 := Lib.hid (fun W => refLess_as (At S i).1 (At S i).2 fr fc false (HRA3.out i ha hlt) W)
                have HAV := Lib.hid (ahV_no S rA i ha)
                have HNV := Lib.hid (nxV_high S rN i hc)
                have hnb : (nxV S rN i).2 = true := (by unfold nxV; rw [if_pos (by omega)])
                clear hc
                have HST := Lib.hid hst
                clear hst f0 f1 fl n0 n1 nf nl a0 a1 af al z0 z1 hbl ha
                obtain ⟨⟨f0, f1, fl⟩, ⟨z0, z1, zl⟩⟩ := HFACT.out _ HST.out.k
                generalize At S i = x at *
                rw [hnb]
                go_wp2_with fail
                go_still_tail 5, (by kernel_rfl)
                change wpList _ _ _ _ _ wr.drew
                have HSTd := Lib.hid (HST.out.past (Below.refl _ _).drew)
                clear f0 f1 fl z0 z1 zl
                generalize hDR : wr.drew = wt at *
                clear hDR
                go_wp2_with (go_at_call 19; (with_reducible refine (HL1.out _).mono ?_); rintro e w6 ⟨rfl, hb6⟩; have HST6 := Lib.hid (HSTd.out.past hb6); obtain ⟨⟨f0, f1, fl⟩, ⟨z0, z1, zl⟩⟩ := HFACT.out _ HST6.out.k; obtain ⟨⟨n0, n1, nf, nl⟩, ⟨a0, a1, af, al⟩⟩ := HST6.out.cells; clear hb6)
                have HST7 := HST6
                clear f0 f1 fl z0 z1 zl n0 n1 nf nl a0 a1 af al
                generalize hW7 : w6 = w7 at *
                clear hW7
                obtain ⟨⟨f0, f1, fl⟩, ⟨z0, z1, zl⟩⟩ := HFACT.out _ HST7.out.k
                go_quiet (fail)
                have HST8 := Lib.hid (HST7.out.past (belN' w7 nq))
                clear f0 f1 fl z0 z1 zl
                generalize w7.drewN nq = w8 at *
                go_wp2
                have HSTF := HST8
                go_roundw
                case rel => exact ⟨i + 1, (by rw [HNV.out]; exact congrArg Value.bool hnb.symm), (by rw [HAV.out]), by go_num, hlt, Lib.hid (by rw [HNV.out]; exact HSTF.out.n), Lib.hid (by rw [HAV.out]; exact HSTF.out.a), Lib.hid HSTF.out.k⟩
                case measure => simp [intOf]; omega
          · obtain rfl : i = S.length := by omega
            have hjj : ¬ (S.length : Int) < S.length := by omega
            have hst : ST w5 wr B (nxV S rN S.length) (ahV S rA S.length) := ⟨HN2.out, HA2.out, HKB.out⟩
            rw [HEn.out, HEa.out] at hst
            have HST := Lib.hid hst
            have hPM : PM wr D v mz P := HS5.out.kept HKB.out (fun e => by omega) (fun g hg e => by have := HSB.out g hg; omega)
            have HPM := Lib.hid hPM
            have HWR : Hid (Below wa.heap.size wa wr) := Lib.hid (HKB.out.to_below HBW5.out fun i hi => by omega)
            have HFQ : Hid (∀ W, Below wr.heap.size wr W → W.cell? ⟨Q, 0, none⟩ = some (.int .i64 fr) ∧ W.cell? ⟨Q, 1, none⟩ = some (.int .i64 fc) ∧ Q < W.heap.size) := Lib.hid fun W hW => by
              have g := keep hW hbx
              exact ⟨cell_of_row _ _ 0 _ _ _ g, cell_of_row _ _ 1 _ _ _ g, (Array.getElem?_eq_some_iff.1 g).1⟩
            have hb1 := HEn.out
            have hb2 := HEa.out
            rw [hb1, hb2]
            have E1 := fun W => eqPos_self W (pk S (rN : Int)).1.1 (pk S (rN : Int)).1.2
            have E2 := fun W => eqPos_self W (pk S ((rA : Int) - 1)).1.1 (pk S ((rA : Int) - 1)).1.2
            have hg := guardPos
            clear hst hPM HN2 HA2 HKB hb1 hb2 n0 n1 nf nl a0 a1 af al hbx HS5 HEn HEa
            generalize pk S (rN : Int) = zN at *
            generalize pk S ((rA : Int) - 1) = zA at *
            have HAL : Hid (∀ W, Below wr.heap.size wr W → (W.cell? ⟨B, 0, none⟩ = some (.int .i64 zN.1.1) ∧ W.cell? ⟨B, 1, none⟩ = some (.int .i64 zN.1.2) ∧ B < W.heap.size) ∧ (W.cell? ⟨B + 1, 0, none⟩ = some (.int .i64 zA.1.1) ∧ W.cell? ⟨B + 1, 1, none⟩ = some (.int .i64 zA.1.2) ∧ B + 1 < W.heap.size)) := Lib.hid fun W hW => by
              obtain ⟨⟨c1, c2, _, c3⟩, ⟨c4, c5, _, c6⟩⟩ := (HST.out.past hW).cells
              exact ⟨⟨c1, c2, c3⟩, c4, c5, c6⟩
            go_wp2_with (first
              | (go_at_call 20; (with_reducible refine (HNX.out _ HPM.out).mono ?_); rintro e w6 ⟨rfl, hb6⟩; have HB6 := Lib.hid hb6; have HB7 := Lib.hid (belA hb6 (.cells #[.int .i64 zN.1.1, .int .i64 zN.1.2] 30)); obtain ⟨g0, g1, gl⟩ := HFQ.out _ HB7.out; clear hb6 f0 f1 fl)
              | (go_at_call 21; (with_reducible refine (HAH.out _ (HPM.out.past HB7.out)).mono ?_); rintro e w8 ⟨rfl, hb8⟩; have k6 := keep hb8 (heap_alloc_new w6 _); have k60 := cell_of_row _ _ 0 _ _ _ k6; have k61 := cell_of_row _ _ 1 _ _ _ k6; have k6l := (Array.getElem?_eq_some_iff.1 k6).1; have HB8 := Lib.hid (bel0 HB7.out hb8); obtain ⟨⟨t1, t2, t3⟩, ⟨t4, t5, t6⟩⟩ := HAL.out _ HB8.out; clear hb8 k6))
            go_ret
            have h0 := HB0.out
            rw [← HQE.out] at h0
            exact ⟨rfl, bel0 h0 (bel0 HWR.out (belA HB8.out _))⟩
end Go.Proofs.Ytnkdbpbfapdfeaa
