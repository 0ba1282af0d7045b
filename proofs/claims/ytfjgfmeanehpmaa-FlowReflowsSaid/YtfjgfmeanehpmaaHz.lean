/- The document's Offset and Place; the law FlowPlaces. -/
import Derived.Test.YtfjgfmeanehpmaaHy
import Derived.Laws.StructEq
namespace Go.Proofs.Ytfjgfmeanehpmaa
open Go.RowKit

theorem eqPosF (w : World) (a b c d : Int) : (Op.equalIn 10000 39 (.agg #[.int .i64 a, .int .i64 b]) (.agg #[.int .i64 c, .int .i64 d])).run Try.prog w = .ok (a == c && b == d) w := by
  rw [run_equalIn_struct w 9999 39 _ _ (by kernel_rfl) (by kernel_rfl)]
  have e : (Try.prog.fieldsOf 39).toList.map (fun f => (f.name, f.type, f.offset)) = [("Row", 3, 0), ("Col", 3, 1)] := by kernel_rfl
  generalize (Try.prog.fieldsOf 39).toList = fs at e ⊢
  obtain ⟨f0, f1, rfl⟩ := two_of' (by simpa using congrArg List.length e)
  simp only [List.map_cons, List.map_nil, List.cons.injEq, Prod.mk.injEq, and_true] at e
  obtain ⟨⟨n0, t0, o0⟩, ⟨n1, t1, o1⟩⟩ := e
  have hi : ∀ (W : World) (x y : Int), (Op.equalIn 9999 3 (.int .i64 x) (.int .i64 y)).run Try.prog W = .ok (x == y) W := fun W x y => eqIN 9998 W x y
  by_cases h : a = c
  · by_cases h' : b = d
    · simp [Op.eqFields, n0, t0, o0, n1, t1, o1, part, hi, h, h']
    · simp [Op.eqFields, n0, t0, o0, n1, t1, o1, part, hi, h, h']
  · simp [Op.eqFields, n0, t0, o0, n1, t1, o1, part, hi, h]
theorem eqPosF_self (w : World) (a b : Int) : (Op.equalIn 10000 39 (.agg #[.int .i64 a, .int .i64 b]) (.agg #[.int .i64 a, .int .i64 b])).run Try.prog w = .ok true w := by
  rw [eqPosF]
  simp
theorem guardPosF : Try.prog.eqGuardType Try.prog.depth 39 = false := by kernel_rfl
theorem cnt_one (L : List Rw) (i : Nat) (h : i < L.length) : (flat ((L.take (i + 1)).drop i)).length = cnt (Ar L i) := by
  rw [List.take_succ_eq_append_getElem h, List.drop_append_of_le_length (by simp; omega), List.drop_of_length_le (by simp; omega)]
  unfold Ar
  rw [List.getElem?_eq_getElem h]
  simp [flat, cnt]
theorem cnt_last (L : List Rw) (i : Nat) (h : i + 1 = L.length) : (flat (L.drop i)).length = cnt (Ar L i) := by
  rw [List.drop_eq_getElem_cons (by omega), List.drop_of_length_le (by omega)]
  unfold Ar
  rw [List.getElem?_eq_getElem (by omega)]
  simp [flat, cnt]
/-- The document's Count of parts of rows. -/
structure CK (w : World) (A : Option Addr) (L : List Rw) : Prop where
  upto : ∀ W c i, i ≤ L.length → Below w.heap.size w W → Calls Try.prog 39 #[.slice A i c] W fun e w' => e = .returned (.int .i64 (pre L i : Nat)) ∧ Below W.heap.size W w'
  one : ∀ W b off c i, A = some ⟨b, off, none⟩ → i < L.length → Below w.heap.size w W → Calls Try.prog 39 #[.slice (some ⟨b, off + i * 2, none⟩) 1 c] W fun e w' => e = .returned (.int .i64 (cnt (Ar L i) : Nat)) ∧ Below W.heap.size W w'
theorem ck_of {w : World} {A : Option Addr} {L : List Rw} (hl : L.length ≤ 100000000) (hr : ∀ i, i < L.length → (Ar L i).c.length ≤ 1000000000) (hf : (flat L).length ≤ 1000000000) (h : RR w A L) : CK w A L where
  upto W c i hi hW := by
    have e : i = (L.take i).length := by rw [List.length_take, Nat.min_eq_left hi]
    have h1 := refCount_any A (L.take i) i c e (by omega) (fun j hj => by rw [Ar_take L i j hj]; exact hr j (by omega)) (Nat.le_trans (flat_take_le L i) hf) W ((h.past hW).take i)
    rwa [flow_count] at h1
  one W b off c i hA hi hW := by
    subst hA
    have e : 1 = ((L.take (i + 1)).drop i).length := by rw [List.length_drop, List.length_take]; omega
    have h1 := refCount_any (some ⟨b, off + i * 2, none⟩) ((L.take (i + 1)).drop i) 1 c e (by omega) (fun j hj => by
      obtain rfl : j = 0 := by omega
      rw [Ar_drop, Ar_take L (i + 1) _ (by omega)]
      exact hr i hi) (by rw [cnt_one L i hi]; have h2 := pre_succ L i hi; have h3 := pre_le L (i + 1); omega) W (((h.past hW).take (i + 1)).drop i)
    rwa [cnt_one L i hi] at h1
set_option maxRecDepth 100000 in
set_option maxHeartbeats 4000000 in
theorem refOffset_any (A : Option Addr) (L : List Rw) (n c : Nat) (row col : Int) (hn : n = L.length) (hl : n ≤ 100000000) (hc : n ≤ c) (hr : ∀ i, i < n → (Ar L i).c.length ≤ 1000000000) (hf : (flat L).length ≤ 1000000000) (w : World) (h : RR w A L) :
    Calls Try.prog 22 #[.slice A n c, .agg #[.int .i64 row, .int .i64 col]] w fun e w' => e = .returned (.int .i64 (offZ L row col : Nat)) ∧ Below w.heap.size w w' := by
  have HCK := Lib.hid (ck_of (by omega) (by rw [← hn]; exact hr) hf h)
  have HB0 := Lib.hid (belA (Below.refl w.heap.size w) (.cells #[.int .i64 row, .int .i64 col] 39))
  rcases Int.lt_or_le row 0 with h0 | h0
  · have hz : offZ L row col = 0 := by unfold offZ; rw [if_pos h0]
    rw [hz]
    have hd : decide (row < 0) = true := decide_eq_true h0
    clear h hn hf hr
    go_enter Try.func22, Try.ntmps22
    go_wp2
    go_ret
    exact ⟨rfl, HB0.out⟩
  · obtain ⟨i, rfl⟩ : ∃ i : Nat, row = i := ⟨row.toNat, by omega⟩
    have hd : decide ((i : Int) < 0) = false := decide_eq_false (by omega)
    have hz : offZ L (i : Int) col = offR L i col := by unfold offZ; rw [if_neg (by omega)]; rfl
    rw [hz]
    by_cases hin : n ≤ i
    · have hz2 : offR L i col = pre L n := by rw [offR_over L i col (by omega), hn]
      rw [hz2]
      have hdn : decide (n ≤ i) = true := decide_eq_true hin
      have HC := Lib.hid (HCK.out.upto _ c n (by omega) HB0.out)
      clear h hn hf hr hz hz2 hd h0
      generalize pre L n = pn at *
      go_enter Try.func22, Try.ntmps22
      go_wp2_with (go_at_call 39; (with_reducible refine (HC.out).mono ?_); rintro e w1 ⟨rfl, hb⟩; have HB1 := Lib.hid (bel0 HB0.out hb); clear hb)
      go_ret
      exact ⟨rfl, HB1.out⟩
    · have hz2 : offR L i col = pre L i + min col.toNat (cnt (Ar L i)) := offR_at L i col (by omega)
      rw [hz2]
      obtain ⟨b, off, rfl⟩ := h.some (fun e => by rw [e] at hn; simp at hn; omega)
      have hps := pre_succ L i (by omega)
      have hb1 := pre_le L (i + 1)
      have hpq : pre L i + cnt (Ar L i) ≤ 1000000000 := by omega
      have HC1 := Lib.hid (fun W c' hW => HCK.out.one W b off c' i rfl (by omega) hW)
      have HC2 := Lib.hid (fun W c' hW => HCK.out.upto W c' i (by omega) hW)
      have hdn : decide (n ≤ i) = false := decide_eq_false hin
      have hic : (i : Int) + 1 ≤ c := by omega
      have hic2 : (i : Int) ≤ c := by omega
      have hci : ¬ (c = i) := by omega
      have hx := heap_alloc_new w (.cells #[.int .i64 (i : Int), .int .i64 col] 39)
      have c0 := cell_of_row _ _ 0 _ _ _ hx
      have c1 := cell_of_row _ _ 1 _ _ _ hx
      have hlt := (Array.getElem?_eq_some_iff.1 hx).1
      clear h hn hf hr hz hz2 hd h0 hps hb1 HCK hx
      generalize pre L i = p at *
      generalize cnt (Ar L i) = q at *
      obtain ⟨z, hz, hcs⟩ : ∃ z : Nat, min col.toNat q = z ∧ (col < 0 ∧ z = 0 ∨ 0 ≤ col ∧ col ≤ q ∧ (z : Int) = col ∨ (q : Int) < col ∧ z = q) := ⟨_, rfl, by omega⟩
      rw [hz]
      have HZ : Hid ((col < 0 → (0 : Int) = z) ∧ (0 ≤ col → col ≤ q → col = z) ∧ ((q : Int) < col → q = z)) := Lib.hid (by omega)
      clear hz
      have hcs' : col < 0 ∨ (0 ≤ col ∧ col ≤ q) ∨ (q : Int) < col := by omega
      clear hcs
      rcases hcs' with h1 | ⟨h1, h2⟩ | h1
      all_goals
        go_enter Try.func22, Try.ntmps22
        go_wp2_with (first
          | (go_at_call 39; (with_reducible refine (HC1.out _ _ HB0.out).mono ?_); rintro e w1 ⟨rfl, hb⟩; obtain ⟨hcw, hfw⟩ := bcell hb; have HB1 := Lib.hid (bel0 HB0.out hb); clear hb)
          | (go_at_call 39; (with_reducible refine (HC2.out _ _ HB1.out).mono ?_); rintro e w2 ⟨rfl, hb⟩; have HB2 := Lib.hid (bel0 HB1.out hb); clear hb))
        go_ret
        exact ⟨ret_i (by have := HZ.out; omega), HB2.out⟩
set_option maxRecDepth 100000 in
set_option maxHeartbeats 8000000 in
theorem refPlace_pos (A : Option Addr) (L : List Rw) (n c : Nat) (z0 : Nat) (hz0 : z0 ≤ 9223372036854775807) (hn : n = L.length) (hl : n ≤ 100000000) (hc : n ≤ c) (hr : ∀ i, i < n → (Ar L i).c.length ≤ 1000000000) (hf : (flat L).length ≤ 1000000000) (w : World) (h : RR w A L) :
    Calls Try.prog 24 #[.slice A n c, .int .i64 (z0 : Int)] w fun e w' => e = .returned (.agg #[.int .i64 ((placeR L z0).1 : Nat), .int .i64 ((placeR L z0).2 : Nat)]) ∧ Below w.heap.size w w' := by
  have HCK := Lib.hid (ck_of (by omega) (by rw [← hn]; exact hr) hf h)
  have HN := Lib.hid hn
  have HF := Lib.hid hf
  have HR := Lib.hid h
  have hx := heap_alloc_new w (.cells #[.int .i64 0, .int .i64 0] 39)
  have hb0 := belA (Below.refl w.heap.size w) (.cells #[.int .i64 0, .int .i64 0] 39)
  clear h hn hf hr
  go_enter Try.func24, Try.ntmps24
  go_wp2_with fail
  have HX := Lib.hid hx
  have HB0 := Lib.hid hb0
  clear hx hb0
  generalize w.alloc (.cells #[.int .i64 0, .int .i64 0] 39) = w0 at *
  go_loopw [5] (fun q wr => ∃ i : Nat, q = .int .i64 i ∧ i ≤ n ∧ Hid (pre L i ≤ z0) ∧ Hid (Below w.heap.size w wr ∧ wr.heap[w.heap.size]? = some (.cells #[.int .i64 0, .int .i64 0] 39 (0, 0)))) (fun q _ => n - (intOf q).toNat)
  case atStart => exact ⟨0, rfl, Nat.zero_le _, Lib.hid (by rw [pre_zero]; omega), Lib.hid ⟨HB0.out, HX.out⟩⟩
  case round =>
    obtain ⟨i, rfl, hi, HP, HB⟩ := hrel
    by_cases hlt : i < n
    · have hlti : (i : Int) < n := by omega
      have hic : (i : Int) + 1 ≤ c := by omega
      have hic2 : (i : Int) ≤ c := by omega
      have hci : ¬ (c = 0) := by omega
      have HC1 := Lib.hid (fun W c' hW => HCK.out.upto W c' (i + 1) (by have := HN.out; omega) hW)
      have HC2 := Lib.hid (fun W c' hW => HCK.out.upto W c' i (by have := HN.out; omega) hW)
      obtain ⟨b, off0, rfl⟩ := HR.out.some (fun e => by have := HN.out; rw [e] at this; simp at this; omega)
      have hle1 := pre_le L (i + 1)
      have hle0 := pre_le L i
      have hF := HF.out
      have HPA : Hid (z0 < pre L (i + 1) → placeR L z0 = (i, z0 - pre L i)) := Lib.hid fun h => by
        have e := placeR_at L i z0 (by have := HN.out; omega) HP.out (.inl h)
        rw [e, pre_succ L i (by have := HN.out; omega)] at *
        rw [Nat.min_eq_left (by omega)]
      have hp0 := HP.out
      obtain ⟨p1, hp1⟩ : ∃ p1, pre L (i + 1) = p1 := ⟨_, rfl⟩
      obtain ⟨p, hp⟩ : ∃ p, pre L i = p := ⟨_, rfl⟩
      have HP1 := Lib.hid hp1
      rw [hp1] at HC1 HPA hle1
      rw [hp] at HC2 HPA hle0 hp0
      clear hp1 hp
      by_cases hgt : z0 < p1
      · have hd : decide (z0 < p1) = true := decide_eq_true hgt
        have hdi : decide ((z0 : Int) < (p1 : Int)) = true := decide_eq_true (by omega)
        have HPL := Lib.hid (HPA.out hgt)
        clear HPA HCK
        have hzp : (z0 : Int) - (p : Int) = ((z0 - p : Nat) : Int) := by omega
        go_wp2_with (first
          | (go_at_call 39; (with_reducible refine (HC1.out _ _ HB.out.1).mono ?_); rintro e w1 ⟨rfl, hb⟩; have HB1 := Lib.hid (bel0 HB.out.1 hb); have HX1 := Lib.hid ((hb.block _ (Array.getElem?_eq_some_iff.1 HB.out.2).1).trans HB.out.2); clear hb)
          | (go_at_call 39; (with_reducible refine (HC2.out _ _ HB1.out).mono ?_); rintro e w2 ⟨rfl, hb⟩; have HB2 := Lib.hid (bel0 HB1.out hb); have hx2 := (hb.block _ (Array.getElem?_eq_some_iff.1 HX1.out).1).trans HX1.out; have q7 := cell_of_row _ _ 0 _ _ _ hx2; have q8 := cell_of_row _ _ 1 _ _ _ hx2; have q9 := free_of_row hx2 0; have q10 := free_of_row hx2 1; clear hb hx2))
        refine bodyPost_ret (v := .agg #[.int .i64 (i : Int), .int .i64 ((z0 - p : Nat) : Int)]) (by simp [results, Try.results24, go_sem, q7, q8]) rfl ⟨(by rw [HPL.out]), ?_⟩
        exact (HB2.out.setCell (p := ⟨w.heap.size, 0, none⟩) (Nat.le_refl _) _).setCell (p := ⟨w.heap.size, 1, none⟩) (Nat.le_refl _) _
      · have hd : decide (z0 < p1) = false := decide_eq_false hgt
        have hdi : decide ((z0 : Int) < (p1 : Int)) = false := decide_eq_false (by omega)
        have HPN : Hid (pre L (i + 1) ≤ z0) := Lib.hid (by rw [HP1.out]; omega)
        clear HPA
        go_wp2_with (go_at_call 39; (with_reducible refine (HC1.out _ _ HB.out.1).mono ?_); rintro e w1 ⟨rfl, hb⟩; have HB1 := Lib.hid (bel0 HB.out.1 hb); have HX1 := Lib.hid ((hb.block _ (Array.getElem?_eq_some_iff.1 HB.out.2).1).trans HB.out.2); clear hb)
        go_roundw
        case rel => exact ⟨i + 1, by go_num, hlt, HPN, Lib.hid ⟨HB1.out, HX1.out⟩⟩
        case measure => simp [intOf]; omega
    · obtain rfl : i = n := by omega
      by_cases h0 : i = 0
      · have hd : ((i : Int) == 0) = true := by simp; omega
        have HPL : Hid (placeR L z0 = (0, 0)) := Lib.hid (by
          have : L = [] := List.eq_nil_of_length_eq_zero (by have := HN.out; omega)
          rw [this]
          rfl)
        have q7 := cell_of_row _ _ 0 _ _ _ HB.out.2
        have q8 := cell_of_row _ _ 1 _ _ _ HB.out.2
        have q9 := free_of_row HB.out.2 0
        have q10 := free_of_row HB.out.2 1
        clear h0 HCK HP
        go_wp2_with fail
        refine bodyPost_ret (v := .agg #[.int .i64 0, .int .i64 0]) (by simp [results, Try.results24, go_sem, q7, q8]) rfl ⟨(by rw [HPL.out]; rfl), ?_⟩
        exact (HB.out.1.setCell (p := ⟨w.heap.size, 0, none⟩) (Nat.le_refl _) _).setCell (p := ⟨w.heap.size, 1, none⟩) (Nat.le_refl _) _
      · have hd : ((i : Int) == 0) = false := by simp; omega
        obtain ⟨m, hm⟩ : ∃ m, i = m + 1 := ⟨i - 1, by omega⟩
        subst hm
        have HC1 := Lib.hid (fun W b off c' hA hW => HCK.out.one W b off c' m hA (by have := HN.out; omega) hW)
        have HC2 := Lib.hid (fun W c' hW => HCK.out.upto W c' m (by have := HN.out; omega) hW)
        obtain ⟨b, off0, rfl⟩ := HR.out.some (fun e => by have := HN.out; rw [e] at this; simp at this)
        have hmc : ¬ (c = m) := by omega
        have hmc2 : (m : Int) ≤ c := by omega
        have hme : (m : Int) + 1 - 1 = m := by omega
        have hcc : ¬ (c = 0) := by omega
        have hps := pre_succ L m (by have := HN.out; omega)
        have hp0 := HP.out
        have hle := pre_le L (m + 1)
        have hF := HF.out
        have HPL : Hid (placeR L z0 = (m, min (z0 - pre L m) (cnt (Ar L m)))) := Lib.hid (placeR_at L m z0 (by have := HN.out; omega) (by omega) (.inr HN.out))
        rw [hps] at hp0 hle
        clear hps HP HCK h0 hi hlt
        generalize pre L m = p at *
        generalize cnt (Ar L m) = q at *
        obtain ⟨z, hz, hcs⟩ : ∃ z : Nat, min (z0 - p) q = z ∧ (q < z0 - p ∧ z = q ∨ z0 - p ≤ q ∧ z = z0 - p) := ⟨_, rfl, by omega⟩
        rw [hz] at HPL
        clear hz
        have HZ : Hid ((q < z0 - p → q = z) ∧ (z0 - p ≤ q → z0 - p = z)) := Lib.hid (by omega)
        have hcs' : q < z0 - p ∨ z0 - p ≤ q := by omega
        clear hcs
        have hzp : (z0 : Int) - (p : Int) = ((z0 - p : Nat) : Int) := by omega
        rcases hcs' with h1 | h1
        · have hd1 : decide (q < z0 - p) = true := decide_eq_true h1
          go_wp2_with (first
            | (go_at_call 39; (with_reducible refine (HC1.out _ _ _ _ rfl HB.out.1).mono ?_); rintro e w1 ⟨rfl, hb⟩; have HB1 := Lib.hid (bel0 HB.out.1 hb); have HX1 := Lib.hid ((hb.block _ (Array.getElem?_eq_some_iff.1 HB.out.2).1).trans HB.out.2); clear hb)
            | (go_at_call 39; (with_reducible refine (HC2.out _ _ HB1.out).mono ?_); rintro e w2 ⟨rfl, hb⟩; have HB2 := Lib.hid (bel0 HB1.out hb); have hx2 := (hb.block _ (Array.getElem?_eq_some_iff.1 HX1.out).1).trans HX1.out; have q7 := cell_of_row _ _ 0 _ _ _ hx2; have q8 := cell_of_row _ _ 1 _ _ _ hx2; have q9 := free_of_row hx2 0; have q10 := free_of_row hx2 1; clear hb hx2))
          refine bodyPost_ret (v := .agg #[.int .i64 (m : Int), .int .i64 (q : Int)]) (by simp [results, Try.results24, go_sem, q7, q8]) rfl ⟨(by rw [HPL.out, HZ.out.1 h1]), ?_⟩
          exact (HB2.out.setCell (p := ⟨w.heap.size, 0, none⟩) (Nat.le_refl _) _).setCell (p := ⟨w.heap.size, 1, none⟩) (Nat.le_refl _) _
        · have hd1 : decide (q < z0 - p) = false := decide_eq_false (by omega)
          go_wp2_with (first
            | (go_at_call 39; (with_reducible refine (HC1.out _ _ _ _ rfl HB.out.1).mono ?_); rintro e w1 ⟨rfl, hb⟩; have HB1 := Lib.hid (bel0 HB.out.1 hb); have HX1 := Lib.hid ((hb.block _ (Array.getElem?_eq_some_iff.1 HB.out.2).1).trans HB.out.2); clear hb)
            | (go_at_call 39; (with_reducible refine (HC2.out _ _ HB1.out).mono ?_); rintro e w2 ⟨rfl, hb⟩; have HB2 := Lib.hid (bel0 HB1.out hb); have hx2 := (hb.block _ (Array.getElem?_eq_some_iff.1 HX1.out).1).trans HX1.out; have q7 := cell_of_row _ _ 0 _ _ _ hx2; have q8 := cell_of_row _ _ 1 _ _ _ hx2; have q9 := free_of_row hx2 0; have q10 := free_of_row hx2 1; clear hb hx2))
          refine bodyPost_ret (v := .agg #[.int .i64 (m : Int), .int .i64 ((z0 - p : Nat) : Int)]) (by simp [results, Try.results24, go_sem, q7, q8]) rfl ⟨(by rw [HPL.out, HZ.out.2 h1]), ?_⟩
          exact (HB2.out.setCell (p := ⟨w.heap.size, 0, none⟩) (Nat.le_refl _) _).setCell (p := ⟨w.heap.size, 1, none⟩) (Nat.le_refl _) _
set_option maxRecDepth 100000 in
set_option maxHeartbeats 8000000 in
theorem refPlace_neg (A : Option Addr) (L : List Rw) (n c : Nat) (off : Int) (hoff : off < 0) (hn : n = L.length) (hl : n ≤ 100000000) (hc : n ≤ c) (hr : ∀ i, i < n → (Ar L i).c.length ≤ 1000000000) (hf : (flat L).length ≤ 1000000000) (w : World) (h : RR w A L) :
    Calls Try.prog 24 #[.slice A n c, .int .i64 off] w fun e w' => e = .returned (.agg #[.int .i64 ((placeR L 0).1 : Nat), .int .i64 ((placeR L 0).2 : Nat)]) ∧ Below w.heap.size w w' := by
  have HCK := Lib.hid (ck_of (by omega) (by rw [← hn]; exact hr) hf h)
  have HN := Lib.hid hn
  have HF := Lib.hid hf
  have HR := Lib.hid h
  have hx := heap_alloc_new w (.cells #[.int .i64 0, .int .i64 0] 39)
  have hb0 := belA (Below.refl w.heap.size w) (.cells #[.int .i64 0, .int .i64 0] 39)
  clear h hn hf hr
  go_enter Try.func24, Try.ntmps24
  go_wp2_with fail
  have HX := Lib.hid hx
  have HB0 := Lib.hid hb0
  clear hx hb0
  generalize w.alloc (.cells #[.int .i64 0, .int .i64 0] 39) = w0 at *
  go_loopw [5] (fun q wr => ∃ i : Nat, q = .int .i64 i ∧ i ≤ n ∧ Hid (pre L i ≤ 0) ∧ Hid (Below w.heap.size w wr ∧ wr.heap[w.heap.size]? = some (.cells #[.int .i64 0, .int .i64 0] 39 (0, 0)))) (fun q _ => n - (intOf q).toNat)
  case atStart => exact ⟨0, rfl, Nat.zero_le _, Lib.hid (by rw [pre_zero]; omega), Lib.hid ⟨HB0.out, HX.out⟩⟩
  case round =>
    obtain ⟨i, rfl, hi, HP, HB⟩ := hrel
    by_cases hlt : i < n
    · have hlti : (i : Int) < n := by omega
      have hic : (i : Int) + 1 ≤ c := by omega
      have hic2 : (i : Int) ≤ c := by omega
      have hci : ¬ (c = 0) := by omega
      have HC1 := Lib.hid (fun W c' hW => HCK.out.upto W c' (i + 1) (by have := HN.out; omega) hW)
      have HC2 := Lib.hid (fun W c' hW => HCK.out.upto W c' i (by have := HN.out; omega) hW)
      obtain ⟨b, off0, rfl⟩ := HR.out.some (fun e => by have := HN.out; rw [e] at this; simp at this; omega)
      have hle1 := pre_le L (i + 1)
      have hle0 := pre_le L i
      have hF := HF.out
      have HPA : Hid (0 < pre L (i + 1) → placeR L 0 = (i, 0 - pre L i)) := Lib.hid fun h => by
        have e := placeR_at L i 0 (by have := HN.out; omega) HP.out (.inl h)
        rw [e, pre_succ L i (by have := HN.out; omega)] at *
        rw [Nat.min_eq_left (by omega)]
      have hp0 := HP.out
      obtain ⟨p1, hp1⟩ : ∃ p1, pre L (i + 1) = p1 := ⟨_, rfl⟩
      obtain ⟨p, hp⟩ : ∃ p, pre L i = p := ⟨_, rfl⟩
      have HP1 := Lib.hid hp1
      rw [hp1] at HC1 HPA hle1
      rw [hp] at HC2 HPA hle0 hp0
      clear hp1 hp
      by_cases hgt : 0 < p1
      · have hd : decide (0 < p1) = true := decide_eq_true hgt
        have hdi : decide ((0 : Int) < (p1 : Int)) = true := decide_eq_true (by omega)
        have HPL := Lib.hid (HPA.out hgt)
        clear HPA HCK
        have hzp : (0 : Int) - (p : Int) = ((0 - p : Nat) : Int) := by omega
        go_wp2_with (first
          | (go_at_call 39; (with_reducible refine (HC1.out _ _ HB.out.1).mono ?_); rintro e w1 ⟨rfl, hb⟩; have HB1 := Lib.hid (bel0 HB.out.1 hb); have HX1 := Lib.hid ((hb.block _ (Array.getElem?_eq_some_iff.1 HB.out.2).1).trans HB.out.2); clear hb)
          | (go_at_call 39; (with_reducible refine (HC2.out _ _ HB1.out).mono ?_); rintro e w2 ⟨rfl, hb⟩; have HB2 := Lib.hid (bel0 HB1.out hb); have hx2 := (hb.block _ (Array.getElem?_eq_some_iff.1 HX1.out).1).trans HX1.out; have q7 := cell_of_row _ _ 0 _ _ _ hx2; have q8 := cell_of_row _ _ 1 _ _ _ hx2; have q9 := free_of_row hx2 0; have q10 := free_of_row hx2 1; clear hb hx2))
        refine bodyPost_ret (v := .agg #[.int .i64 (i : Int), .int .i64 ((0 - p : Nat) : Int)]) (by simp [results, Try.results24, go_sem, q7, q8]) rfl ⟨(by rw [HPL.out]), ?_⟩
        exact (HB2.out.setCell (p := ⟨w.heap.size, 0, none⟩) (Nat.le_refl _) _).setCell (p := ⟨w.heap.size, 1, none⟩) (Nat.le_refl _) _
      · have hd : decide (0 < p1) = false := decide_eq_false hgt
        have hdi : decide ((0 : Int) < (p1 : Int)) = false := decide_eq_false (by omega)
        have HPN : Hid (pre L (i + 1) ≤ 0) := Lib.hid (by rw [HP1.out]; omega)
        clear HPA
        go_wp2_with (go_at_call 39; (with_reducible refine (HC1.out _ _ HB.out.1).mono ?_); rintro e w1 ⟨rfl, hb⟩; have HB1 := Lib.hid (bel0 HB.out.1 hb); have HX1 := Lib.hid ((hb.block _ (Array.getElem?_eq_some_iff.1 HB.out.2).1).trans HB.out.2); clear hb)
        go_roundw
        case rel => exact ⟨i + 1, by go_num, hlt, HPN, Lib.hid ⟨HB1.out, HX1.out⟩⟩
        case measure => simp [intOf]; omega
    · obtain rfl : i = n := by omega
      by_cases h0 : i = 0
      · have hd : ((i : Int) == 0) = true := by simp; omega
        have HPL : Hid (placeR L 0 = (0, 0)) := Lib.hid (by
          have : L = [] := List.eq_nil_of_length_eq_zero (by have := HN.out; omega)
          rw [this]
          rfl)
        have q7 := cell_of_row _ _ 0 _ _ _ HB.out.2
        have q8 := cell_of_row _ _ 1 _ _ _ HB.out.2
        have q9 := free_of_row HB.out.2 0
        have q10 := free_of_row HB.out.2 1
        clear h0 HCK HP
        go_wp2_with fail
        refine bodyPost_ret (v := .agg #[.int .i64 0, .int .i64 0]) (by simp [results, Try.results24, go_sem, q7, q8]) rfl ⟨(by rw [HPL.out]; rfl), ?_⟩
        exact (HB.out.1.setCell (p := ⟨w.heap.size, 0, none⟩) (Nat.le_refl _) _).setCell (p := ⟨w.heap.size, 1, none⟩) (Nat.le_refl _) _
      · have hd : ((i : Int) == 0) = false := by simp; omega
        obtain ⟨m, hm⟩ : ∃ m, i = m + 1 := ⟨i - 1, by omega⟩
        subst hm
        have HC1 := Lib.hid (fun W b off c' hA hW => HCK.out.one W b off c' m hA (by have := HN.out; omega) hW)
        have HC2 := Lib.hid (fun W c' hW => HCK.out.upto W c' m (by have := HN.out; omega) hW)
        obtain ⟨b, off0, rfl⟩ := HR.out.some (fun e => by have := HN.out; rw [e] at this; simp at this)
        have hmc : ¬ (c = m) := by omega
        have hmc2 : (m : Int) ≤ c := by omega
        have hme : (m : Int) + 1 - 1 = m := by omega
        have hcc : ¬ (c = 0) := by omega
        have hps := pre_succ L m (by have := HN.out; omega)
        have hp0 := HP.out
        have hle := pre_le L (m + 1)
        have hF := HF.out
        have HPL : Hid (placeR L 0 = (m, min (0 - pre L m) (cnt (Ar L m)))) := Lib.hid (placeR_at L m 0 (by have := HN.out; omega) (by omega) (.inr HN.out))
        rw [hps] at hp0 hle
        clear hps HP HCK h0 hi hlt
        generalize pre L m = p at *
        generalize cnt (Ar L m) = q at *
        obtain ⟨z, hz, hcs⟩ : ∃ z : Nat, min (0 - p) q = z ∧ (q < 0 - p ∧ z = q ∨ 0 - p ≤ q ∧ z = 0 - p) := ⟨_, rfl, by omega⟩
        rw [hz] at HPL
        clear hz
        have HZ : Hid ((q < 0 - p → q = z) ∧ (0 - p ≤ q → 0 - p = z)) := Lib.hid (by omega)
        have hcs' : q < 0 - p ∨ 0 - p ≤ q := by omega
        clear hcs
        have hzp : (0 : Int) - (p : Int) = ((0 - p : Nat) : Int) := by omega
        rcases hcs' with h1 | h1
        · exfalso; omega
        · have hd1 : decide (q < 0 - p) = false := decide_eq_false (by omega)
          go_wp2_with (first
            | (go_at_call 39; (with_reducible refine (HC1.out _ _ _ _ rfl HB.out.1).mono ?_); rintro e w1 ⟨rfl, hb⟩; have HB1 := Lib.hid (bel0 HB.out.1 hb); have HX1 := Lib.hid ((hb.block _ (Array.getElem?_eq_some_iff.1 HB.out.2).1).trans HB.out.2); clear hb)
            | (go_at_call 39; (with_reducible refine (HC2.out _ _ HB1.out).mono ?_); rintro e w2 ⟨rfl, hb⟩; have HB2 := Lib.hid (bel0 HB1.out hb); have hx2 := (hb.block _ (Array.getElem?_eq_some_iff.1 HX1.out).1).trans HX1.out; have q7 := cell_of_row _ _ 0 _ _ _ hx2; have q8 := cell_of_row _ _ 1 _ _ _ hx2; have q9 := free_of_row hx2 0; have q10 := free_of_row hx2 1; clear hb hx2))
          refine bodyPost_ret (v := .agg #[.int .i64 (m : Int), .int .i64 ((0 - p : Nat) : Int)]) (by simp [results, Try.results24, go_sem, q7, q8]) rfl ⟨(by rw [HPL.out, HZ.out.2 h1]), ?_⟩
          exact (HB2.out.setCell (p := ⟨w.heap.size, 0, none⟩) (Nat.le_refl _) _).setCell (p := ⟨w.heap.size, 1, none⟩) (Nat.le_refl _) _
theorem refPlace_any (A : Option Addr) (L : List Rw) (n c : Nat) (off : Int) (hb : off ≤ 9223372036854775807) (hn : n = L.length) (hl : n ≤ 100000000) (hc : n ≤ c) (hr : ∀ i, i < n → (Ar L i).c.length ≤ 1000000000) (hf : (flat L).length ≤ 1000000000) (w : World) (h : RR w A L) :
    Calls Try.prog 24 #[.slice A n c, .int .i64 off] w fun e w' => e = .returned (.agg #[.int .i64 ((placeZ L off).1 : Nat), .int .i64 ((placeZ L off).2 : Nat)]) ∧ Below w.heap.size w w' := by
  rcases Int.lt_or_le off 0 with h0 | h0
  · have e : placeZ L off = placeR L 0 := by unfold placeZ; rw [show off.toNat = 0 by omega]
    rw [e]
    exact refPlace_neg A L n c off h0 hn hl hc hr hf w h
  · obtain ⟨z0, rfl⟩ : ∃ z0 : Nat, off = z0 := ⟨off.toNat, by omega⟩
    exact refPlace_pos A L n c z0 (by omega) hn hl hc hr hf w h
set_option maxRecDepth 100000 in
set_option maxHeartbeats 8000000 in
theorem flowPlaces_law (A : Option Addr) (L : List Rw) (n c : Nat) (row col off : Int) (hob : off ≤ 9223372036854775807) (hn : n = L.length) (hl : n ≤ 140737488355328) (hc : n ≤ c) (hr : ∀ i, i < n → (Ar L i).c.length ≤ 140737488355328) (w : World) (h : RR w A L) :
    Calls Try.prog 5 #[.slice A n c, .agg #[.int .i64 row, .int .i64 col], .int .i64 off] w fun e w' => e = .returned (.bool true) ∧ Below w.heap.size w w' := by
  have HA := fun W => Lib.hid (awake_any W)
  have HB0 := Lib.hid (belA (Below.refl w.heap.size w) (.cells #[.int .i64 row, .int .i64 col] 39))
  have HG := Lib.hid (great_any A L n c hn hl hr _ (h.past HB0.out))
  cases hsm : smallB L with
  | false =>
    rw [hsm] at HG
    clear hr h hn hsm
    go_enter Try.func5, Try.ntmps5
    go_wp2_with (first
      | (go_at_call 10; (with_reducible refine (HG.out).mono ?_); rintro e w1 ⟨rfl, hb⟩; have HB1 := Lib.hid (bel0 HB0.out hb); clear hb)
      | (go_at_call 11; (with_reducible refine ((HA _).out).mono ?_); rintro e w2 ⟨rfl, hb⟩; have HB2 := Lib.hid (bel0 HB1.out hb); clear hb))
    go_ret
    exact ⟨rfl, HB2.out⟩
  | true =>
    rw [hsm] at HG
    have hs : Small L := of_decide_eq_true hsm
    obtain ⟨s1, s2, s3⟩ := small_rows hs
    have HO1 := Lib.hid (fun W (hW : Below w.heap.size w W) => flowOffset_any A L n c row col hn (by omega) (fun i hi => by have := s2 i (by omega); omega) (by omega) W (h.past hW))
    have HO2 := Lib.hid (fun W (hW : Below w.heap.size w W) => refOffset_any A L n c row col hn (by omega) hc (fun i hi => by have := s2 i (by omega); omega) (by omega) W (h.past hW))
    have HP1 := Lib.hid (fun W (hW : Below w.heap.size w W) => flowPlace_any A L n c off hn (by omega) (fun i hi => by have := s2 i (by omega); omega) (by omega) W (h.past hW))
    have HP2 := Lib.hid (fun W (hW : Below w.heap.size w W) => refPlace_any A L n c off hob hn (by omega) hc (fun i hi => by have := s2 i (by omega); omega) (by omega) W (h.past hW))
    have hx := heap_alloc_new w (.cells #[.int .i64 row, .int .i64 col] 39)
    have HX := Lib.hid hx
    clear hr h hn hsm hs s1 s2 s3 hob hx
    generalize offZ L row col = z at *
    generalize placeZ L off = pz at *
    obtain ⟨p1, p2⟩ := pz
    have E1 := fun W => eqPosF_self W (p1 : Int) (p2 : Int)
    have hg := guardPosF
    go_enter Try.func5, Try.ntmps5
    go_wp2_with (first
      | (go_at_call 10; (with_reducible refine (HG.out).mono ?_); rintro e w1 ⟨rfl, hb⟩; have HB1 := Lib.hid (bel0 HB0.out hb); have hx1 := (hb.block _ (Array.getElem?_eq_some_iff.1 HX.out).1).trans HX.out; have HX1 := Lib.hid hx1; clear hb hx1)
      | (go_at_call 11; (with_reducible refine ((HA _).out).mono ?_); rintro e w2 ⟨rfl, hb⟩; have HB2 := Lib.hid (bel0 HB1.out hb); have hx2 := (hb.block _ (Array.getElem?_eq_some_iff.1 HX1.out).1).trans HX1.out; have HX2 := Lib.hid hx2; clear hb hx2))
    have hS : (w2.cell? ⟨w.heap.size, 0, none⟩ = some (.int .i64 row) ∧ w2.cell? ⟨w.heap.size, 1, none⟩ = some (.int .i64 col)) ∧ w.heap.size < w2.heap.size ∧ Below w.heap.size w w2 := ⟨⟨cell_of_row _ _ 0 _ _ _ HX2.out, cell_of_row _ _ 1 _ _ _ HX2.out⟩, (Array.getElem?_eq_some_iff.1 HX2.out).1, HB2.out⟩
    have hSd := box_step hS (Below.refl w2.heap.size w2).drew
    clear hS HX HX1 HX2 HB0 HB1 HB2 HA HG
    go_region_held3 (fun W => (W.cell? ⟨w.heap.size, 0, none⟩ = some (.int .i64 row) ∧ W.cell? ⟨w.heap.size, 1, none⟩ = some (.int .i64 col)) ∧ w.heap.size < W.heap.size ∧ Below w.heap.size w W)
      (first | exact hSd | exact box_step hSd hbx | exact box_step (by assumption) hbx | assumption)
      (first
        | (go_at_call 21; (with_reducible refine (HO1.out _ (box_below (by assumption))).mono ?_); rintro e8 w8 ⟨rfl, hbx⟩)
        | (go_at_call 22; (with_reducible refine (HO2.out _ (box_below (by assumption))).mono ?_); rintro e8 w8 ⟨rfl, hbx⟩)
        | (go_at_call 23; (with_reducible refine (HP1.out _ (box_below (by assumption))).mono ?_); rintro e8 w8 ⟨rfl, hbx⟩)
        | (go_at_call 24; (with_reducible refine (HP2.out _ (box_below (by assumption))).mono ?_); rintro e8 w8 ⟨rfl, hbx⟩))
    all_goals
      go_wp2
      go_ret
      exact ⟨rfl, box_below (by assumption)⟩
end Go.Proofs.Ytfjgfmeanehpmaa
