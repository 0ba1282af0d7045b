/- Places by counts; flow.Offset and flow.Place. -/
import Derived.Test.YtfjgfmeanehpmaaHw
namespace Go.Proofs.Ytfjgfmeanehpmaa
open Go.RowKit

theorem placeR_spec : ∀ (L : List Rw) (o : Nat), L ≠ [] → (placeR L o).1 < L.length ∧ pre L (placeR L o).1 ≤ o ∧ (o < pre L ((placeR L o).1 + 1) ∨ (placeR L o).1 + 1 = L.length) ∧ (placeR L o).2 = min (o - pre L (placeR L o).1) (cnt (Ar L (placeR L o).1))
  | [], _, h => absurd rfl h
  | [r], o, _ => by simp [placeR, pre_zero, Ar]
  | r :: r' :: t, o, _ => by
    by_cases h : o < cnt r
    · have e : placeR (r :: r' :: t) o = (0, o) := by
        show (if o < cnt r then ((0, o) : Nat × Nat) else _) = _
        rw [if_pos h]
      rw [e]
      refine ⟨by simp, Nat.zero_le _, .inl (by rw [pre_cons, pre_zero]; omega), ?_⟩
      show o = min (o - 0) (cnt r)
      omega
    · have e : placeR (r :: r' :: t) o = ((placeR (r' :: t) (o - cnt r)).1 + 1, (placeR (r' :: t) (o - cnt r)).2) := by
        show (if o < cnt r then ((0, o) : Nat × Nat) else _) = _
        rw [if_neg h]
      obtain ⟨h1, h2, h3, h4⟩ := placeR_spec (r' :: t) (o - cnt r) (by simp)
      rw [e]
      generalize placeR (r' :: t) (o - cnt r) = q at *
      refine ⟨by simp at h1 ⊢; omega, by rw [pre_cons]; omega, ?_, ?_⟩
      · show o < pre (r :: r' :: t) (q.1 + 1 + 1) ∨ q.1 + 1 + 1 = (r :: r' :: t).length
        rw [pre_cons]
        rcases h3 with h3 | h3
        · exact .inl (by omega)
        · exact .inr (by simp at h3 ⊢; omega)
      · show q.2 = _
        rw [h4, pre_cons, show o - (cnt r + pre (r' :: t) q.1) = o - cnt r - pre (r' :: t) q.1 by omega]
        rfl
/-- An offset behind the last one is the last one. -/
theorem placeR_clamp (L : List Rw) (o : Nat) (hne : L ≠ []) : placeR L o = placeR L (min o (pre L L.length)) := by
  rcases Nat.lt_or_ge (pre L L.length) o with h | h
  · obtain ⟨n, hn⟩ : ∃ n, L.length = n + 1 := ⟨L.length - 1, by have := List.length_pos_iff.2 hne; omega⟩
    have hp := pre_succ L n (by omega)
    rw [← hn] at hp
    rw [Nat.min_eq_right (Nat.le_of_lt h), placeR_at L n o (by omega) (by omega) (.inr hn.symm), placeR_at L n (pre L L.length) (by omega) (by omega) (.inr hn.symm)]
    congr 1
    omega
  · rw [Nat.min_eq_left h]
set_option maxRecDepth 100000 in
set_option maxHeartbeats 2000000 in
theorem place1_any (a1 a2 : Nat) (g n c i z x : Nat) (hin : i + 1 < n + 1) (w : World) (h1 : w.cell? ⟨a1, 0, none⟩ = some (.slice (some ⟨g, 0, none⟩) (n + 1) c)) (h2 : w.cell? ⟨a2, 0, none⟩ = some (.int .i64 z)) (h3 : w.cell? ⟨g, i + 1, none⟩ = some (.int .i64 x)) (hn : n ≤ 1000000000) :
    Calls Try.prog 50 #[.int .i64 i, .pointer (some ⟨a1, 0, none⟩), .pointer (some ⟨a2, 0, none⟩)] w fun e w' => e = .returned (.bool (decide (z < x))) ∧ Below w.heap.size w w' := by
  have hw2 : IntKind.i64.wrap ((i : Int) + 1) = (i : Int) + 1 := by rw [IntKind.wrap_i64]; omega
  have hi0 : (0 : Int) ≤ (i : Int) + 1 := by omega
  have hi1 : (i : Int) + 1 < (n : Int) + 1 := by omega
  by_cases hzx : z < x
  all_goals
    have hd : decide (z < x) = decide (z < x) := rfl
    first
      | rw [decide_eq_true hzx]
      | rw [decide_eq_false hzx]
    have hdi : decide ((z : Int) < x) = decide (z < x) := by simp
    clear hd
    first
      | rw [decide_eq_true hzx] at hdi
      | rw [decide_eq_false hzx] at hdi
    go_enter Try.func50, Try.ntmps50
    go_wp2
    go_quiet (fail)
    go_wp2
    go_ret
    exact ⟨rfl, belN' _ _⟩
theorem alloc3 (w : World) (o1 o2 o3 : Obj) : (((w.alloc o1).alloc o2).alloc o3).heap[w.heap.size]? = some o1 ∧ (((w.alloc o1).alloc o2).alloc o3).heap[w.heap.size + 1]? = some o2 ∧ (((w.alloc o1).alloc o2).alloc o3).heap[w.heap.size + 2]? = some o3 ∧ (((w.alloc o1).alloc o2).alloc o3).heap.size = w.heap.size + 3 ∧ Below w.heap.size w (((w.alloc o1).alloc o2).alloc o3) := by
  have s1 : (w.alloc o1).heap.size = w.heap.size + 1 := by simp
  have s2 : ((w.alloc o1).alloc o2).heap.size = w.heap.size + 2 := by simp
  have h1 := heap_alloc_new w o1
  have h2 := heap_alloc_new (w.alloc o1) o2
  have h3 := heap_alloc_new ((w.alloc o1).alloc o2) o3
  rw [s1] at h2
  rw [s2] at h3
  have b2 := belA (Below.refl (w.alloc o1).heap.size (w.alloc o1)) o2
  have b3 := belA (Below.refl ((w.alloc o1).alloc o2).heap.size ((w.alloc o1).alloc o2)) o3
  refine ⟨?_, ?_, h3, by simp, belA (belA (belA (Below.refl _ _) _) _) _⟩
  · rw [b3.block _ (by omega), b2.block _ (by omega)]
    exact h1
  · rw [b3.block _ (by omega)]
    exact h2
theorem free_of_row {w : World} {b : Nat} {cs : Array Value} {t : TypeId} (h : w.heap[b]? = some (.cells cs t (0, 0))) (k : Nat) : w.frozen? ⟨b, k, none⟩ = false := by simp [World.frozen?, h]
/-- Behind the store into the box of the offset. -/
theorem place_box {w W0 : World} {g n c z : Nat} {off vz : Int} {L : List Rw} (h : RN w g L) (x1 : W0.heap[w.heap.size]? = some (.cells #[.slice (some ⟨g, 0, none⟩) (n + 1) c] 65)) (x2 : W0.heap[w.heap.size + 1]? = some (.cells #[.int .i64 off] 3)) (x3 : W0.heap[w.heap.size + 2]? = some (.cells #[.int .i64 0, .int .i64 0] 39)) (x5 : Below w.heap.size w W0) (hv : vz = z) :
    ∀ V, Below (W0.setCell ⟨w.heap.size + 1, 0, none⟩ (.int .i64 vz)).drew.heap.size (W0.setCell ⟨w.heap.size + 1, 0, none⟩ (.int .i64 vz)).drew V → V.cell? ⟨w.heap.size, 0, none⟩ = some (.slice (some ⟨g, 0, none⟩) (n + 1) c) ∧ V.cell? ⟨w.heap.size + 1, 0, none⟩ = some (.int .i64 z) ∧ RN V g L ∧ Below w.heap.size w V ∧ V.heap[w.heap.size + 2]? = some (.cells #[.int .i64 0, .int .i64 0] 39) := fun V hV => by
  subst hv
  have hb1 : Below w.heap.size w (W0.setCell ⟨w.heap.size + 1, 0, none⟩ (.int .i64 (z : Int))) := x5.setCell (p := ⟨w.heap.size + 1, 0, none⟩) (Nat.le_succ _) _
  have hsz : ∀ k, W0.heap[k]? ≠ none → k < (W0.setCell ⟨w.heap.size + 1, 0, none⟩ (.int .i64 (z : Int))).drew.heap.size := fun k hk => by
    show k < (W0.setCell _ _).heap.size
    rw [World.size_setCell]
    rcases Nat.lt_or_ge k W0.heap.size with h | h
    · exact h
    · exact absurd (Array.getElem?_eq_none h) hk
  have e1 : V.heap[w.heap.size]? = some (.cells #[.slice (some ⟨g, 0, none⟩) (n + 1) c] 65) := by
    rw [hV.block _ (hsz _ (by rw [x1]; simp))]
    exact (heap_setCell_other W0 ⟨w.heap.size + 1, 0, none⟩ w.heap.size _ (by simp)).trans x1
  have e3 : V.heap[w.heap.size + 2]? = some (.cells #[.int .i64 0, .int .i64 0] 39) := by
    rw [hV.block _ (hsz _ (by rw [x3]; simp))]
    exact (heap_setCell_other W0 ⟨w.heap.size + 1, 0, none⟩ (w.heap.size + 2) _ (by simp)).trans x3
  have e2 : V.cell? ⟨w.heap.size + 1, 0, none⟩ = some (.int .i64 (z : Int)) := by
    rw [hV.cell (p := ⟨w.heap.size + 1, 0, none⟩) (hsz _ (by rw [x2]; simp))]
    exact World.cell?_setCell_same _ _ _ (cell_of_row _ _ 0 _ _ _ x2)
  have hb : Below w.heap.size w V := bel0 (⟨hb1.os, hb1.tape, hb1.output, hb1.size, hb1.block⟩ : Below w.heap.size w (W0.setCell ⟨w.heap.size + 1, 0, none⟩ (.int .i64 (z : Int))).drew) hV
  exact ⟨cell_of_row _ _ 0 _ _ _ e1, e2, h.past hb, hb, e3⟩
/-- Where an offset is. -/
def placeZ (L : List Rw) (off : Int) : Nat × Nat := placeR L off.toNat
set_option maxRecDepth 100000 in
set_option maxHeartbeats 4000000 in
theorem placeF_any (g n c : Nat) (L : List Rw) (off : Int) (hn : n = L.length) (hl : n ≤ 100000000) (hf : (flat L).length ≤ 1000000000) (w : World) (h : RN w g L) :
    Calls Try.prog 40 #[.slice (some ⟨g, 0, none⟩) (n + 1) c, .int .i64 off] w fun e w' => e = .returned (.agg #[.int .i64 ((placeZ L off).1 : Nat), .int .i64 ((placeZ L off).2 : Nat)]) ∧ Below w.heap.size w w' := by
  have hRW := fun W => rows_any (some ⟨g, 0, none⟩) n c (by omega) W
  have hgl := h.lt
  by_cases h0 : n = 0
  · have e0 : placeZ L off = (0, 0) := by
      have : L = [] := List.eq_nil_of_length_eq_zero (by omega)
      rw [this]
      rfl
    rw [e0]
    have hb : ((n : Int) == 0) = true := by simp; omega
    clear h hn hf h0 e0
    go_enter Try.func40, Try.ntmps40
    go_wp2_with (go_at_call 48; (with_reducible refine (hRW _).mono ?_); rintro e w' ⟨rfl, rfl⟩)
    refine bodyPost_ret (v := .agg #[.int .i64 0, .int .i64 0]) (by simp [results, Try.results40, go_sem]) rfl ⟨rfl, ?_⟩
    exact belA (belA (belA (Below.refl _ _) _) _) _
  · have hb : ((n : Int) == 0) = false := by simp; omega
    have hne : L ≠ [] := fun e => by rw [e] at hn; simp at hn; omega
    obtain ⟨z, hz, hcs⟩ : ∃ z : Nat, min off.toNat (pre L L.length) = z ∧ (off < 0 ∧ z ≤ 0 ∨ 0 ≤ off ∧ off ≤ (pre L n : Nat) ∧ (z : Int) ≤ off ∧ off ≤ z ∨ ((pre L n : Nat) : Int) < off ∧ z ≤ pre L n ∧ pre L n ≤ z) := ⟨_, rfl, by rw [← hn]; omega⟩
    have hpz : placeZ L off = placeR L z := by
      unfold placeZ
      rw [placeR_clamp L _ hne, hz]
    obtain ⟨s1, s2, s3, s4⟩ := placeR_spec L z hne
    have hzn : z ≤ pre L n := by rw [← hz, hn]; omega
    have hcol : (placeR L z).2 = z - pre L (placeR L z).1 := by
      rw [s4]
      have := pre_succ L (placeR L z).1 s1
      rcases s3 with s3 | s3
      · omega
      · rw [s3, ← hn] at this
        omega
    rw [hpz]
    generalize placeR L z = q at *
    obtain ⟨r, k⟩ := q
    replace s1 : r < L.length := s1
    replace s2 : pre L r ≤ z := s2
    replace s3 : z < pre L (r + 1) ∨ r + 1 = L.length := s3
    replace hcol : k = z - pre L r := hcol
    have HSE : Hid (∀ (a1 a2 : Nat) (W : World), (∀ V, Below W.heap.size W V → V.cell? ⟨a1, 0, none⟩ = some (.slice (some ⟨g, 0, none⟩) (n + 1) c) ∧ V.cell? ⟨a2, 0, none⟩ = some (.int .i64 z) ∧ RN V g L) → Calls Try.prog 49 #[.int .i64 ((n : Int) - 1), .func (.func 50) #[] #[.pointer (some ⟨a1, 0, none⟩), .pointer (some ⟨a2, 0, none⟩)]] W fun e w' => e = .returned (.int .i64 r) ∧ Below W.heap.size W w') := Lib.hid fun a1 a2 W hW => by
      have e : ((n : Int) - 1) = ((n - 1 : Nat) : Int) := by omega
      rw [e]
      refine search_place ⟨a1, 0, none⟩ ⟨a2, 0, none⟩ (fun i => decide (z < pre L (i + 1))) (n - 1) r (by omega) (by omega) (fun i hi => ?_) (fun i hi hi2 => ?_) W (fun V i hi hV => ?_)
      · exact decide_eq_false (by have := pre_mono L (i + 1) r (by omega); omega)
      · refine decide_eq_true ?_
        rcases s3 with s3 | s3
        · have := pre_mono L (r + 1) (i + 1) (by omega)
          omega
        · omega
      · obtain ⟨v1, v2, v3⟩ := hW V hV
        exact place1_any a1 a2 g n c i z (pre L (i + 1)) (by omega) V v1 v2 (v3.at' (i + 1) (by omega)) (by omega)
    have hcn := h.at' n (by omega)
    have hcr := h.at' r (by omega)
    have HRN := Lib.hid h
    have hnl : (n : Int) < (n : Int) + 1 := by omega
    have hrl : (r : Int) < (n : Int) + 1 := by omega
    have hkz : (z : Int) - (pre L r : Nat) = (k : Nat) := by omega
    have hpl := pre_le L n
    have hpr := pre_le L r
    clear h h0 hne hz hpz s3 s4 hcol hn
    have hrL : r ≤ L.length := Nat.le_of_lt s1
    clear s1
    generalize pre L n = pn at *
    have HPRE : Hid (pre L r = pre L r) := Lib.hid rfl
    obtain ⟨pr, hpr0⟩ : ∃ pr, pre L r = pr := ⟨_, rfl⟩
    have HPR := Lib.hid hpr0
    rw [hpr0] at hcr hkz hpr s2
    clear hpr0 HPRE
    rcases hcs with ⟨h1, h2⟩ | ⟨h1, h2, h3, h4⟩ | ⟨h1, h2, h3⟩
    all_goals
      have HA3 := Lib.hid (alloc3 w (.cells #[.slice (some ⟨g, 0, none⟩) (n + 1) c] 65) (.cells #[.int .i64 off] 3) (.cells #[.int .i64 0, .int .i64 0] 39))
      go_enter Try.func40, Try.ntmps40
      go_wp2_with (go_at_call 48; (with_reducible refine (hRW _).mono ?_); rintro e w' ⟨rfl, rfl⟩)
      generalize ((w.alloc (.cells #[.slice (some ⟨g, 0, none⟩) (n + 1) c] 65)).alloc (.cells #[.int .i64 off] 3)).alloc (.cells #[.int .i64 0, .int .i64 0] 39) = W0 at *
      obtain ⟨x1, x2, x3, x4, x5⟩ := HA3.out
      have HX1 := Lib.hid x1
      have HX2 := Lib.hid x2
      have HX3 := Lib.hid x3
      have HX4 := Lib.hid x4
      have HX5 := Lib.hid x5
      have y1 := cell_of_row _ _ 0 _ _ _ x1
      have y2 := cell_of_row _ _ 0 _ _ _ x2
      have y2f := free_of_row x2 0
      have y0 := (x5.cell (p := ⟨g, n, none⟩) hgl).trans hcn
      clear x1 x2 x3 x4 x5 HA3 hcn
      have HPB := fun (vz : Int) hv => Lib.hid (place_box (z := z) (vz := vz) HRN.out HX1.out HX2.out HX3.out HX5.out hv)
      have HS := fun W hW => Lib.hid (HSE.out w.heap.size (w.heap.size + 1) W hW)
      clear HSE
      have hkz' : IntKind.i64.wrap ((z : Int) - (pr : Nat)) = (k : Nat) := by rw [IntKind.wrap_i64]; omega
      go_region
      go_wp2_with (go_at_call 49; (with_reducible refine ((HS _ (fun V hV => ⟨((HPB _ (by omega)).out V hV).1, ((HPB _ (by omega)).out V hV).2.1, ((HPB _ (by omega)).out V hV).2.2.1⟩)).out).mono ?_); rintro e w5 ⟨rfl, hb5⟩; obtain ⟨q1, q2, q3, q4, q5⟩ := (HPB _ (by omega)).out _ hb5; have q6 := q3.at' r hrL; rw [HPR.out] at q6; have q5' : w5.heap[w.heap.size + 1 + 1]? = some (.cells #[.int .i64 0, .int .i64 0] 39) := q5; have q7 := cell_of_row _ _ 0 _ _ _ q5'; have q8 := cell_of_row _ _ 1 _ _ _ q5'; have q9 := free_of_row q5' 0; have q10 := free_of_row q5' 1; clear q5'; have HB5 := Lib.hid q4; clear hb5 q3 q4 q5)
      clear HPB HS hkz
      go_region
      go_wp2
      refine bodyPost_ret (v := .agg #[.int .i64 (r : Int), .int .i64 (k : Int)]) (by simp [results, Try.results40, go_sem, q7, q8]) rfl ⟨rfl, ?_⟩
      have hb6 := (HB5.out.setCell (p := ⟨w.heap.size + 1 + 1, 0, none⟩) (by show w.heap.size ≤ w.heap.size + 1 + 1; omega) (.int .i64 (r : Int))).setCell (p := ⟨w.heap.size + 1 + 1, 1, none⟩) (by show w.heap.size ≤ w.heap.size + 1 + 1; omega) (.int .i64 (k : Int))
      exact ⟨hb6.os, hb6.tape, hb6.output, hb6.size, hb6.block⟩
end Go.Proofs.Ytfjgfmeanehpmaa
