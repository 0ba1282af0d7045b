/- The document's Mark. -/
import Derived.Test.YtoiekhjmfoodiaaDoorHm
import Derived.Test.YtoiekhjmfoodiaaDoorHk
import Derived.Test.YtoiekhjmfoodiaaDoorHc
import Derived.Deep.RegionHeld3
import Derived.Test.YtoiekhjmfoodiaaDoorGx
import Derived.Deep.RegionWith
namespace Go.Proofs.YtoiekhjmfoodiaaDoor
open Go.RowKit

theorem putL_put7 (r : Int) : strL (putL r) = put7 r := by
  unfold put7
  by_cases h : scalarB r = true
  · rw [if_pos (show scal7 r = true from h), enc_put r h]
  · rw [if_neg (show ¬ scal7 r = true from h)]
    unfold putL
    rw [if_neg h]
    rfl
theorem rput_any (r : Int) (w : World) : Calls Tryd.prog 34 #[.int .i32 r] w fun e w' => (∃ A k c, e = .returned (.slice A k c) ∧ (Go.convert 54 9 (.slice A k c)).run Tryd.prog w' = .ok (.string (put7 r)) w') ∧ Below w.heap.size w w' :=
  (refput_any r w).mono fun e w' ⟨A, c, he, hb, hB⟩ => ⟨⟨A, _, c, he, by rw [← putL_put7]; exact conv_str _ c rfl hb⟩, hB⟩
theorem Ac_set (L : List CC) (i : Nat) (v : CC) (j : Nat) (h : i < L.length) : Ac (L.set i v) j = if i = j then v else Ac L j := by
  unfold Ac
  by_cases e : i = j
  · subst e
    rw [List.getElem?_set_self h, if_pos rfl]
    rfl
  · rw [List.getElem?_set_ne e, if_neg e]
def withM (y : CC) (s : ByteArray) : CC := ⟨y.r, s, y.h, y.fk, y.fn, y.bk, y.bn, y.fl⟩
/-- Whether the cell j is turned where a mark is laid at x. -/
def markP (M : List CC) (x j : Nat) : Prop := j = x ∨ (j = x + 1 ∧ (Ac M x).h = 1) ∨ (j + 1 = x ∧ (Ac M x).h = 2)
instance (M : List CC) (x j : Nat) : Decidable (markP M x j) := by unfold markP; exact inferInstance
def markU (M : List CC) (x : Nat) (s : ByteArray) (k : Nat) : List CC := (List.range M.length).map fun j => if j < k ∧ markP M x j then withM (Ac M j) s else Ac M j
theorem markU_len (M : List CC) (x : Nat) (s : ByteArray) (k : Nat) : (markU M x s k).length = M.length := by simp [markU]
theorem markU_at (M : List CC) (x : Nat) (s : ByteArray) (k j : Nat) (h : j < M.length) : Ac (markU M x s k) j = if j < k ∧ markP M x j then withM (Ac M j) s else Ac M j := by
  unfold markU
  rw [Ac_map _ _ _ h]
theorem markU_zero (M : List CC) (x : Nat) (s : ByteArray) : markU M x s 0 = M := by
  refine ext_Ac (markU_len M x s 0) fun i hi => ?_
  rw [markU_len] at hi
  rw [markU_at _ _ _ _ _ hi, if_neg (by omega)]
theorem markU_yes (M : List CC) (x : Nat) (s : ByteArray) (k : Nat) (h : k < M.length) (hp : markP M x k) : (markU M x s k).set k (withM (Ac (markU M x s k) k) s) = markU M x s (k + 1) := by
  refine ext_Ac (by simp [markU_len]) fun i hi => ?_
  have hi' : i < M.length := by simpa [markU_len] using hi
  rw [Ac_set _ _ _ _ (by rw [markU_len]; exact h), markU_at _ _ _ _ _ hi', markU_at _ _ _ _ _ hi', markU_at _ _ _ _ _ h, if_neg (show ¬ (k < k ∧ markP M x k) by omega)]
  by_cases e : k = i
  · subst e
    rw [if_pos rfl, if_pos ⟨by omega, hp⟩]
  · rw [if_neg e]
    by_cases h2 : i < k ∧ markP M x i
    · rw [if_pos h2, if_pos ⟨by omega, h2.2⟩]
    · rw [if_neg h2, if_neg (fun h3 => h2 ⟨by omega, h3.2⟩)]
theorem markU_no (M : List CC) (x : Nat) (s : ByteArray) (k : Nat) (hp : ¬ markP M x k) : markU M x s k = markU M x s (k + 1) := by
  refine ext_Ac (by simp [markU_len]) fun i hi => ?_
  have hi' : i < M.length := by simpa [markU_len] using hi
  rw [markU_at _ _ _ _ _ hi', markU_at _ _ _ _ _ hi']
  by_cases e : k = i
  · subst e
    rw [if_neg (by omega), if_neg (fun h => hp h.2)]
  · by_cases h2 : i < k ∧ markP M x i
    · rw [if_pos h2, if_pos ⟨by omega, h2.2⟩]
    · rw [if_neg h2, if_neg (fun h3 => h2 ⟨by omega, h3.2⟩)]
theorem markU_h (M : List CC) (x : Nat) (s : ByteArray) (k j : Nat) (h : j < M.length) : (Ac (markU M x s k) j).h = (Ac M j).h := by
  rw [markU_at _ _ _ _ _ h]
  split <;> rfl
theorem markU_end (l : List CC) (x : Nat) (r : Int) (hx : x < l.length) (hc : ofZ r = 0 ∧ (Ac (mendL l) x).r ≠ 0 ∧ (Ac (mendL l) x).m.size + (put7 r).size ≤ 32) : markU (mendL l) x ((Ac (mendL l) x).m ++ put7 r) l.length = markL (mendL l) x r := by
  have hl := mendL_len l
  unfold markL
  rw [if_pos hc]
  refine ext_Ac (by rw [markU_len]; split; (· simp); (· split <;> simp)) fun i hi => ?_
  rw [markU_len] at hi
  rw [markU_at _ _ _ _ _ hi]
  by_cases h1 : (Ac (mendL l) x).h = 1
  · obtain ⟨h2, h3⟩ := mend_left l x hx h1
    have h4 := pairB_is h3
    rw [if_pos h1, Ac_set _ _ _ _ (by rw [List.length_set]; omega), Ac_set _ _ _ _ (by omega)]
    by_cases e1 : x + 1 = i
    · subst e1
      rw [if_pos rfl, if_pos ⟨by omega, .inr (.inl ⟨rfl, h1⟩)⟩, h4]
      rfl
    · rw [if_neg e1]
      by_cases e2 : x = i
      · subst e2
        rw [if_pos rfl, if_pos ⟨by omega, .inl rfl⟩]
        rfl
      · rw [if_neg e2, if_neg (fun h => by rcases h.2 with h | h | h <;> omega)]
  · rw [if_neg h1]
    by_cases h1' : (Ac (mendL l) x).h = 2
    · obtain ⟨j, hj, h3⟩ := mend_right l x hx h1'
      have h4 := pairB_is h3
      have h5 := pairB_left h3
      rw [if_pos h1', Ac_set _ _ _ _ (by rw [List.length_set]; omega), Ac_set _ _ _ _ (by omega)]
      by_cases e1 : x - 1 = i
      · subst e1
        rw [if_pos rfl, if_pos ⟨by omega, .inr (.inr ⟨by omega, h1'⟩)⟩, show x - 1 = j by omega, h4]
        rw [← h5]
        rfl
      · rw [if_neg e1]
        by_cases e2 : x = i
        · subst e2
          rw [if_pos rfl, if_pos ⟨by omega, .inl rfl⟩]
          rfl
        · rw [if_neg e2, if_neg (fun h => by rcases h.2 with h | h | h <;> omega)]
    · rw [if_neg h1', Ac_set _ _ _ _ (by omega)]
      by_cases e2 : x = i
      · subst e2
        rw [if_pos rfl, if_pos ⟨by omega, .inl rfl⟩]
        rfl
      · rw [if_neg e2, if_neg (fun h => by rcases h.2 with h | h | h <;> omega)]
theorem setM {w : World} {g i : Nat} {L : List CC} (h : MC w g L) (hi : i < L.length) (s : ByteArray) : MC (w.setCell ⟨g, i * 8 + 1, none⟩ (.string s)) g (L.set i (withM (Ac L i) s)) := by
  obtain ⟨cur, hc⟩ := h.row
  have e : ∀ o, o ≠ i * 8 + 1 → (w.setCell ⟨g, i * 8 + 1, none⟩ (.string s)).cell? ⟨g, o, none⟩ = w.cell? ⟨g, o, none⟩ := fun o ho =>
    World.cell?_setCell_other _ ⟨g, i * 8 + 1, none⟩ ⟨g, o, none⟩ _ (fun he => ho (congrArg Addr.off he).symm)
  refine ⟨⟨_, heap_setCell_same w g _ cur _ _ hc⟩, fun k hk => ?_⟩
  have hk' : k < L.length := by simpa using hk
  obtain ⟨h0, h1, h2, h3, h4, h5, h6, h7⟩ := h.at' k hk'
  rw [Ac_set _ _ _ _ hi]
  by_cases hki : i = k
  · subst hki
    rw [if_pos rfl]
    exact ⟨(e _ (by omega)).trans h0, World.cell?_setCell_same _ _ _ h1, (e _ (by omega)).trans h2, (e _ (by omega)).trans h3, (e _ (by omega)).trans h4, (e _ (by omega)).trans h5, (e _ (by omega)).trans h6, (e _ (by omega)).trans h7⟩
  · rw [if_neg hki]
    exact ⟨(e _ (by omega)).trans h0, (e _ (by omega)).trans h1, (e _ (by omega)).trans h2, (e _ (by omega)).trans h3, (e _ (by omega)).trans h4, (e _ (by omega)).trans h5, (e _ (by omega)).trans h6, (e _ (by omega)).trans h7⟩
theorem cell_step {wr W W' : World} {b o : Nat} {v : Value} (h : W.cell? ⟨b, o, none⟩ = some v ∧ b < W.heap.size ∧ Below wr.heap.size wr W) (hb : Below W.heap.size W W') : W'.cell? ⟨b, o, none⟩ = some v ∧ b < W'.heap.size ∧ Below wr.heap.size wr W' :=
  ⟨(hb.cell (p := ⟨b, o, none⟩) h.2.1).trans h.1, Nat.lt_of_lt_of_le h.2.1 hb.size, bel0 h.2.2 hb⟩
set_option maxRecDepth 100000 in
set_option maxHeartbeats 4000000 in
theorem refMark_out (A : Option Addr) (l : List CC) (n c : Nat) (z r : Int) (hn : n = l.length) (hl : n ≤ 1000) (hz : z < 0 ∨ (n : Int) ≤ z) (w : World) (h : RC w w.heap.size A l) :
    Calls Tryd.prog 42 #[.slice A n c, .int .i64 z, .int .i32 r] w fun e w' => ∃ v, e = .returned v ∧ OC w.heap.size w' v (mendL l) ∧ Below w.heap.size w w' := by
  have hlen : (mendL l).length = n := by rw [mendL_len, hn]
  have HM : Hid (Calls Tryd.prog 13 #[.slice A n c] w fun e w' => ∃ A' c', e = .returned (.slice A' n c') ∧ OC w.heap.size w' (.slice A' n c') (mendL l) ∧ Below w.heap.size w w') := Lib.hid ((refMend_any A l n c hn hl w h).mono fun e w' ⟨v, he, ho, hb⟩ => by
    obtain ⟨A', c', e', hr⟩ := ho.form
    rw [hlen] at e'
    subst e'
    exact ⟨A', c', he, ho, hb⟩)
  clear h hn hlen
  generalize mendL l = M at *
  by_cases h0 : z < 0
  · have hd1 : decide (z < 0) = true := decide_eq_true h0
    clear hz
    go_enter Tryd.func42, Tryd.ntmps42
    go_wp2_with (go_at_call 13; (with_reducible refine (HM.out).mono ?_); rintro e w1 ⟨A1, c1, rfl, hr1, hb1⟩; have HR1 := Lib.hid hr1; have HB1 := Lib.hid hb1; clear hr1 hb1)
    go_ret
    exact ⟨_, rfl, HR1.out, HB1.out⟩
  · have hd1 : decide (z < 0) = false := decide_eq_false h0
    have hd2 : decide ((n : Int) ≤ z) = true := decide_eq_true (by omega)
    clear hz
    go_enter Tryd.func42, Tryd.ntmps42
    go_wp2_with (go_at_call 13; (with_reducible refine (HM.out).mono ?_); rintro e w1 ⟨A1, c1, rfl, hr1, hb1⟩; have HR1 := Lib.hid hr1; have HB1 := Lib.hid hb1; clear hr1 hb1)
    go_ret
    exact ⟨_, rfl, HR1.out, HB1.out⟩
set_option maxRecDepth 100000 in
set_option maxHeartbeats 4000000 in
theorem refMark_r (A : Option Addr) (l : List CC) (n c x : Nat) (r : Int) (hn : n = l.length) (hl : n ≤ 1000) (hx : x < n) (w : World) (h : RC w w.heap.size A l) (hr : (Ac (mendL l) x).r = 0) :
    Calls Tryd.prog 42 #[.slice A n c, .int .i64 x, .int .i32 r] w fun e w' => ∃ v, e = .returned v ∧ OC w.heap.size w' v (mendL l) ∧ Below w.heap.size w w' := by
  have hlen : (mendL l).length = n := by rw [mendL_len, hn]
  have HM : Hid (Calls Tryd.prog 13 #[.slice A n c] w fun e w' => ∃ g c', e = .returned (.slice (some ⟨g, 0, none⟩) n c') ∧ w.heap.size ≤ g ∧ n ≤ c' ∧ MC w' g (mendL l) ∧ Below w.heap.size w w') := Lib.hid ((refMend_any A l n c hn hl w h).mono fun e w' ⟨v, he, ho, hb⟩ => by
    obtain ⟨g, c', e', h1, h2, h3⟩ := ho.some (by omega)
    exact ⟨g, c', by rw [he, e', hlen], h1, by omega, h3, hb⟩)
  have hd1 : decide ((x : Int) < 0) = false := decide_eq_false (by omega)
  have hd2 : decide ((n : Int) ≤ (x : Int)) = false := decide_eq_false (by omega)
  have hd2' : decide (n ≤ x) = false := decide_eq_false (by omega)
  have hxn : (x : Int) < n := by omega
  have HX : Hid (x < (mendL l).length) := Lib.hid (by omega)
  have HL := Lib.hid hlen
  clear h hn hlen hx
  generalize mendL l = M at *
  go_enter Tryd.func42, Tryd.ntmps42
  go_wp2_with (go_at_call 13; (with_reducible refine (HM.out).mono ?_); rintro e w1 ⟨g, c1, rfl, hg1, hc1, hm1, hb1⟩; obtain ⟨a0, a1, a2, a3, a4, a5, a6, a7⟩ := hm1.at' x HX.out; have hgl := hm1.lt; have HM1 := Lib.hid hm1; have HB1 := Lib.hid hb1; clear hm1 hb1; rw [hr] at a0)
  go_ret
  exact ⟨.slice (some ⟨g, 0, none⟩) n c1, rfl, .inr ⟨g, c1, by rw [HL.out], hg1, by rw [HL.out]; exact hc1, HM1.out⟩, HB1.out⟩
set_option maxRecDepth 100000 in
set_option maxHeartbeats 4000000 in
theorem refMark_w (A : Option Addr) (l : List CC) (n c x : Nat) (r : Int) (hn : n = l.length) (hl : n ≤ 1000) (hx : x < n) (w : World) (h : RC w w.heap.size A l) (hr : ((Ac (mendL l) x).r == 0) = false) (zz : Int) (hz : ofZ r = zz) (h0 : (zz == 0) = false) :
    Calls Tryd.prog 42 #[.slice A n c, .int .i64 x, .int .i32 r] w fun e w' => ∃ v, e = .returned v ∧ OC w.heap.size w' v (mendL l) ∧ Below w.heap.size w w' := by
  have hlen : (mendL l).length = n := by rw [mendL_len, hn]
  have HM : Hid (Calls Tryd.prog 13 #[.slice A n c] w fun e w' => ∃ g c', e = .returned (.slice (some ⟨g, 0, none⟩) n c') ∧ w.heap.size ≤ g ∧ n ≤ c' ∧ MC w' g (mendL l) ∧ Below w.heap.size w w') := Lib.hid ((refMend_any A l n c hn hl w h).mono fun e w' ⟨v, he, ho, hb⟩ => by
    obtain ⟨g, c', e', h1, h2, h3⟩ := ho.some (by omega)
    exact ⟨g, c', by rw [he, e', hlen], h1, by omega, h3, hb⟩)
  have hd1 : decide ((x : Int) < 0) = false := decide_eq_false (by omega)
  have hd2 : decide ((n : Int) ≤ (x : Int)) = false := decide_eq_false (by omega)
  have hd2' : decide (n ≤ x) = false := decide_eq_false (by omega)
  have hxn : (x : Int) < n := by omega
  have HX : Hid (x < (mendL l).length) := Lib.hid (by omega)
  have HL := Lib.hid hlen
  have HOF : Hid (∀ W, Calls Tryd.prog 27 #[.int .i32 r] W fun e w' => e = .returned (.int .i64 zz) ∧ Below W.heap.size W w') := Lib.hid fun W => by
    have := refOf_any r W
    rwa [hz] at this
  have h0n : (zz != 0) = true := (by rw [bne, h0]; rfl : (zz != 0) = true)
  clear h hn hlen hx hz
  generalize mendL l = M at *
  go_enter Tryd.func42, Tryd.ntmps42
  go_wp2_with (first
    | (go_at_call 13; (with_reducible refine (HM.out).mono ?_); rintro e w1 ⟨g, c1, rfl, hg1, hc1, hm1, hb1⟩; obtain ⟨a0, a1, a2, a3, a4, a5, a6, a7⟩ := hm1.at' x HX.out; have hgl := hm1.lt; have HM1 := Lib.hid hm1; have HB1 := Lib.hid hb1; clear hm1 hb1)
    | (go_at_call 27; (with_reducible refine (HOF.out _).mono ?_); rintro e w2 ⟨rfl, hb2⟩; have HB2 := Lib.hid hb2; have HM2 := Lib.hid (HM1.out.past hb2); clear hb2))
  go_ret
  exact ⟨.slice (some ⟨g, 0, none⟩) n c1, rfl, .inr ⟨g, c1, by rw [HL.out], hg1, by rw [HL.out]; exact hc1, HM2.out⟩, bel0 HB1.out HB2.out⟩
set_option maxRecDepth 100000 in
set_option maxHeartbeats 4000000 in
theorem refMark_l (A : Option Addr) (l : List CC) (n c x : Nat) (r : Int) (hn : n = l.length) (hl : n ≤ 1000) (hx : x < n) (w : World) (h : RC w w.heap.size A l) (hr : ((Ac (mendL l) x).r == 0) = false) (hz : ofZ r = 0) (hs1 : (Ac (mendL l) x).m.size ≤ 4611686018427387904) (hs : 32 < (Ac (mendL l) x).m.size + (put7 r).size) :
    Calls Tryd.prog 42 #[.slice A n c, .int .i64 x, .int .i32 r] w fun e w' => ∃ v, e = .returned v ∧ OC w.heap.size w' v (mendL l) ∧ Below w.heap.size w w' := by
  have hlen : (mendL l).length = n := by rw [mendL_len, hn]
  have HM : Hid (Calls Tryd.prog 13 #[.slice A n c] w fun e w' => ∃ g c', e = .returned (.slice (some ⟨g, 0, none⟩) n c') ∧ w.heap.size ≤ g ∧ n ≤ c' ∧ MC w' g (mendL l) ∧ Below w.heap.size w w') := Lib.hid ((refMend_any A l n c hn hl w h).mono fun e w' ⟨v, he, ho, hb⟩ => by
    obtain ⟨g, c', e', h1, h2, h3⟩ := ho.some (by omega)
    exact ⟨g, c', by rw [he, e', hlen], h1, by omega, h3, hb⟩)
  have hd1 : decide ((x : Int) < 0) = false := decide_eq_false (by omega)
  have hd2 : decide ((n : Int) ≤ (x : Int)) = false := decide_eq_false (by omega)
  have hd2' : decide (n ≤ x) = false := decide_eq_false (by omega)
  have hxn : (x : Int) < n := by omega
  have HX : Hid (x < (mendL l).length) := Lib.hid (by omega)
  have HL := Lib.hid hlen
  have HOF : Hid (∀ W, Calls Tryd.prog 27 #[.int .i32 r] W fun e w' => e = .returned (.int .i64 0) ∧ Below W.heap.size W w') := Lib.hid fun W => by
    have := refOf_any r W
    rwa [hz] at this
  have HPT := Lib.hid (rput_any r)
  have h4 := put7_size r
  have hsum : ¬ (9223372036854775807 < (Ac (mendL l) x).m.size + (put7 r).size) := by omega
  have hd5 : decide ((32 : Int) < ((Ac (mendL l) x).m.size : Int) + ((put7 r).size : Int)) = true := decide_eq_true (by omega)
  have hd6 : (32 : Int) < ((Ac (mendL l) x).m.size : Int) + ((put7 r).size : Int) := by omega
  have HS7 : Hid (((Ac (mendL l) x).m ++ put7 r).size = (Ac (mendL l) x).m.size + (put7 r).size) := Lib.hid (by simp)
  clear h hn hlen hx hz hs hs1 h4
  generalize mendL l = M at *
  generalize put7 r = pr at *
  go_enter Tryd.func42, Tryd.ntmps42
  go_wp2_with (first
    | (go_at_call 13; (with_reducible refine (HM.out).mono ?_); rintro e w1 ⟨g, c1, rfl, hg1, hc1, hm1, hb1⟩; obtain ⟨a0, a1, a2, a3, a4, a5, a6, a7⟩ := hm1.at' x HX.out; have hgl := hm1.lt; have HM1 := Lib.hid hm1; have HB1 := Lib.hid hb1; clear hm1 hb1; clear a1 a2 a3 a4 a5 a6 a7)
    | (go_at_call 27; (with_reducible refine (HOF.out _).mono ?_); rintro e w2 ⟨rfl, hb2⟩; have HB2 := Lib.hid hb2; have HM2 := Lib.hid (HM1.out.past hb2); clear hb2))
  clear a0 hgl
  obtain ⟨b0, b1, b2, b3, b4, b5, b6, b7⟩ := HM2.out.at' x HX.out
  have hgl2 := HM2.out.lt
  generalize Ac M x = y at *
  clear b0 b2 b3 b4 b5 b6 b7
  go_region_with (go_at_call 34; (with_reducible refine (HPT.out _).mono ?_); rintro e8 w8 ⟨⟨A8, k8, c8, rfl, hcv8⟩, hbx⟩; have b18 := (hbx.cell (p := ⟨g, x * 8 + 1, none⟩) hgl2).trans b1; have HB8 := Lib.hid (belD hbx); clear hbx)
  all_goals
    have hs9 := HS7.out
    have hd7 : decide ((32 : Int) < ((y.m ++ pr).size : Int)) = true := decide_eq_true (by omega)
    clear hs9
    go_wp2
    go_ret
    exact ⟨.slice (some ⟨g, 0, none⟩) n c1, rfl, .inr ⟨g, c1, by rw [HL.out], hg1, by rw [HL.out]; exact hc1, HM2.out.past HB8.out⟩, bel0 HB1.out (bel0 HB2.out HB8.out)⟩
set_option maxRecDepth 100000 in
set_option maxHeartbeats 4000000 in
theorem refMark_d (A : Option Addr) (l : List CC) (n c x : Nat) (r : Int) (hn : n = l.length) (hl : n ≤ 1000) (hx : x < n) (w : World) (h : RC w w.heap.size A l) (hr : ((Ac (mendL l) x).r == 0) = false) (hz : ofZ r = 0) (hs : (Ac (mendL l) x).m.size + (put7 r).size ≤ 32) :
    Calls Tryd.prog 42 #[.slice A n c, .int .i64 x, .int .i32 r] w fun e w' => ∃ v, e = .returned v ∧ OC w.heap.size w' v (mendL (markU (mendL l) x ((Ac (mendL l) x).m ++ put7 r) n)) ∧ Below w.heap.size w w' := by
  have hlen : (mendL l).length = n := by rw [mendL_len, hn]
  have HM : Hid (Calls Tryd.prog 13 #[.slice A n c] w fun e w' => ∃ g c', e = .returned (.slice (some ⟨g, 0, none⟩) n c') ∧ w.heap.size ≤ g ∧ n ≤ c' ∧ MC w' g (mendL l) ∧ Below w.heap.size w w') := Lib.hid ((refMend_any A l n c hn hl w h).mono fun e w' ⟨v, he, ho, hb⟩ => by
    obtain ⟨g, c', e', h1, h2, h3⟩ := ho.some (by omega)
    exact ⟨g, c', by rw [he, e', hlen], h1, by omega, h3, hb⟩)
  have hd1 : decide ((x : Int) < 0) = false := decide_eq_false (by omega)
  have hd2 : decide ((n : Int) ≤ (x : Int)) = false := decide_eq_false (by omega)
  have hd2' : decide (n ≤ x) = false := decide_eq_false (by omega)
  have hxn : (x : Int) < n := by omega
  have HX : Hid (x < (mendL l).length) := Lib.hid (by omega)
  have HL := Lib.hid hlen
  have HOF : Hid (∀ W, Calls Tryd.prog 27 #[.int .i32 r] W fun e w' => e = .returned (.int .i64 0) ∧ Below W.heap.size W w') := Lib.hid fun W => by
    have := refOf_any r W
    rwa [hz] at this
  have HPT := Lib.hid (rput_any r)
  have hsum : ¬ (9223372036854775807 < (Ac (mendL l) x).m.size + (put7 r).size) := by omega
  have hd5 : decide ((32 : Int) < ((Ac (mendL l) x).m.size : Int) + ((put7 r).size : Int)) = false := decide_eq_false (by omega)
  have HS7 : Hid (((Ac (mendL l) x).m ++ put7 r).size = (Ac (mendL l) x).m.size + (put7 r).size ∧ (Ac (mendL l) x).m.size + (put7 r).size ≤ 32) := Lib.hid ⟨by simp, hs⟩
  have HE : Hid (∀ W g c', MC W g (markU (mendL l) x ((Ac (mendL l) x).m ++ put7 r) n) → Calls Tryd.prog 13 #[.slice (some ⟨g, 0, none⟩) n c'] W fun e w' => ∃ v, e = .returned v ∧ OC W.heap.size w' v (mendL (markU (mendL l) x ((Ac (mendL l) x).m ++ put7 r) n)) ∧ Below W.heap.size W w') := Lib.hid fun W g c' hm => refMend_any _ _ n c' (by rw [markU_len, hlen]) hl W hm.rc
  clear h hn hlen hx hz hs
  generalize mendL l = M at *
  generalize put7 r = pr at *
  go_enter Tryd.func42, Tryd.ntmps42
  go_wp2_with (first
    | (go_at_call 13; (with_reducible refine (HM.out).mono ?_); rintro e w1 ⟨g, c1, rfl, hg1, hc1, hm1, hb1⟩; obtain ⟨a0, a1, a2, a3, a4, a5, a6, a7⟩ := hm1.at' x HX.out; have hgl := hm1.lt; have HM1 := Lib.hid hm1; have HB1 := Lib.hid hb1; clear hm1 hb1; clear a1 a2 a3 a4 a5 a6 a7)
    | (go_at_call 27; (with_reducible refine (HOF.out _).mono ?_); rintro e w2 ⟨rfl, hb2⟩; have HB2 := Lib.hid hb2; have HM2 := Lib.hid (HM1.out.past hb2); clear hb2))
  clear a0 hgl
  obtain ⟨b0, b1, b2, b3, b4, b5, b6, b7⟩ := HM2.out.at' x HX.out
  have hgl2 := HM2.out.lt
  generalize hy : Ac M x = y at *
  have HY := Lib.hid hy
  clear hy
  clear b0 b2 b3 b4 b5 b6 b7
  go_region_with (go_at_call 34; (with_reducible refine (HPT.out _).mono ?_); rintro e8 w8 ⟨⟨A8, k8, c8, rfl, hcv8⟩, hbx⟩; have b18 := (hbx.cell (p := ⟨g, x * 8 + 1, none⟩) hgl2).trans b1; have HB8 := Lib.hid (belD hbx); clear hbx)
  all_goals
    have HM8 := Lib.hid (HM2.out.past HB8.out)
    have hs9 := HS7.out
    have hd7 : decide ((32 : Int) < ((y.m ++ pr).size : Int)) = false := decide_eq_false (by omega)
    clear hs9
    go_wp2
    clear hd7 hd5 hsum hd1 hd2 hd2' hr
    generalize hsE : y.m ++ pr = s at *
    have HSE := Lib.hid hsE
    clear hsE
    go_loopw [9] (fun q wr => ∃ i : Nat, q = .int .i64 i ∧ i ≤ n ∧ Hid (MC wr g (markU M x s i)) ∧ Hid (KG g w8 wr)) (fun q _ => n - (intOf q).toNat)
    case atStart => exact ⟨0, rfl, Nat.zero_le _, Lib.hid (by rw [markU_zero]; exact HM8.out), Lib.hid (KG.refl _ _)⟩
    case round =>
      obtain ⟨i, rfl, hi, HMI, HKI⟩ := hrel
      by_cases hlt : i < n
      · have hin : (i : Int) < n := by omega
        obtain ⟨_, b1, _, _, _, _, _, _⟩ := HMI.out.at' i (by rw [markU_len, HL.out]; exact hlt)
        obtain ⟨_, _, x2, _, _, _, _, _⟩ := HMI.out.at' x (by rw [markU_len]; exact HX.out)
        rw [markU_h _ _ _ _ _ HX.out, HY.out] at x2
        have hfr := HMI.out.free
        have hgl := HMI.out.lt
        have hw1 : IntKind.i64.wrap ((x : Int) + 1) = (x : Int) + 1 := IntWalk.i64_in _ (by omega)
        have hw2 : IntKind.i64.wrap ((x : Int) - 1) = (x : Int) - 1 := IntWalk.i64_in _ (by omega)
        have HYES : Hid (markP M x i → MC (wr.setCell ⟨g, i * 8 + 1, none⟩ (.string s)) g (markU M x s (i + 1)) ∧ KG g w8 (wr.setCell ⟨g, i * 8 + 1, none⟩ (.string s))) := Lib.hid fun hp => by
          have h1 := setM HMI.out (i := i) (by rw [markU_len, HL.out]; exact hlt) s
          rw [markU_yes _ _ _ _ (by rw [HL.out]; exact hlt) hp] at h1
          exact ⟨h1, HKI.out.set _ _⟩
        have HNO : Hid (¬ markP M x i → MC wr g (markU M x s (i + 1))) := Lib.hid fun hp => by rw [← markU_no _ _ _ _ hp]; exact HMI.out
        generalize (Ac (markU M x s i) i).m = mo at *
        have HH : Hid ((Ac M x).h = y.h) := Lib.hid (by rw [HY.out])
        generalize y.h = hh at *
        by_cases e1 : i = x
        · have q1 : ((i : Int) == (x : Int)) = true := by simp; omega
          have HP := Lib.hid (HYES.out (.inl e1))
          clear HYES HNO e1
          go_wp2
          go_roundw
          case rel => exact ⟨i + 1, by go_num, hlt, Lib.hid HP.out.1, Lib.hid HP.out.2⟩
          case measure => simp [intOf]; omega
        · have q1 : ((i : Int) == (x : Int)) = false := by simp; omega
          by_cases e2 : i = x + 1
          · have q2 : ((i : Int) == (x : Int) + 1) = true := by simp; omega
            have q3 : ((i : Int) == (x : Int) - 1) = false := by simp; omega
            by_cases e3 : hh = 1
            · have q4 : (hh == 1) = true := by simpa using e3
              have HP := Lib.hid (HYES.out (.inr (.inl ⟨e2, by rw [HH.out]; exact e3⟩)))
              clear HYES HNO e1 e2 e3 HH
              go_wp2
              go_roundw
              case rel => exact ⟨i + 1, by go_num, hlt, Lib.hid HP.out.1, Lib.hid HP.out.2⟩
              case measure => simp [intOf]; omega
            · have q4 : (hh == 1) = false := by simpa using e3
              have HP := Lib.hid (HNO.out (fun h => by rcases h with h | h | h; (· omega); (· exact e3 (HH.out.symm.trans h.2)); (· omega)))
              clear HYES HNO e1 e2 e3 HH
              go_wp2
              go_roundw
              case rel => exact ⟨i + 1, by go_num, hlt, Lib.hid HP.out, HKI⟩
              case measure => simp [intOf]; omega
          · have q2 : ((i : Int) == (x : Int) + 1) = false := by simp; omega
            by_cases e4 : i + 1 = x
            · have q3 : ((i : Int) == (x : Int) - 1) = true := by simp; omega
              by_cases e3 : hh = 2
              · have q4 : (hh == 2) = true := by simpa using e3
                have HP := Lib.hid (HYES.out (.inr (.inr ⟨e4, by rw [HH.out]; exact e3⟩)))
                clear HYES HNO e1 e2 e3 HH e4
                go_wp2
                go_roundw
                case rel => exact ⟨i + 1, by go_num, hlt, Lib.hid HP.out.1, Lib.hid HP.out.2⟩
                case measure => simp [intOf]; omega
              · have q4 : (hh == 2) = false := by simpa using e3
                have HP := Lib.hid (HNO.out (fun h => by rcases h with h | h | h; (· omega); (· omega); (· exact e3 (HH.out.symm.trans h.2))))
                clear HYES HNO e1 e2 e3 HH e4
                go_wp2
                go_roundw
                case rel => exact ⟨i + 1, by go_num, hlt, Lib.hid HP.out, HKI⟩
                case measure => simp [intOf]; omega
            · have q3 : ((i : Int) == (x : Int) - 1) = false := by simp; omega
              have HP := Lib.hid (HNO.out (fun h => by rcases h with h | h | h <;> omega))
              clear HYES HNO e1 e2 HH e4
              go_wp2
              go_roundw
              case rel => exact ⟨i + 1, by go_num, hlt, Lib.hid HP.out, HKI⟩
              case measure => simp [intOf]; omega
      · obtain rfl : i = n := by omega
        have HEr := Lib.hid (HE.out wr g c1 HMI.out)
        have HBW : Hid (Below w.heap.size w wr) := Lib.hid (Below.ofKG (bel0 HB1.out (bel0 HB2.out HB8.out)) HKI.out hg1 (bel0 HB1.out (bel0 HB2.out HB8.out)).size)
        clear HMI
        go_wp2_with (go_at_call 13; (with_reducible refine (HEr.out).mono ?_); rintro e w6 ⟨v, rfl, ho, hb⟩; have HO6 := Lib.hid ho; have HB6 := Lib.hid hb; clear ho hb)
        go_ret
        exact ⟨v, rfl, by rw [HY.out, HSE.out]; exact HO6.out.lower HBW.out.size, bel0 HBW.out HB6.out⟩
theorem refMark_any (A : Option Addr) (l : List CC) (n c : Nat) (z r : Int) (hn : n = l.length) (hl : n ≤ 1000) (hs : ∀ x, x < l.length → (Ac (mendL l) x).m.size ≤ 4611686018427387904) (w : World) (h : RC w w.heap.size A l) :
    Calls Tryd.prog 42 #[.slice A n c, .int .i64 z, .int .i32 r] w fun e w' => ∃ v, e = .returned v ∧ OC w.heap.size w' v (markRow l z r) ∧ Below w.heap.size w w' := by
  unfold markRow
  by_cases hz : 0 ≤ z ∧ z < (l.length : Int)
  · rw [if_pos hz]
    obtain ⟨x, rfl⟩ : ∃ x : Nat, z = x := ⟨z.toNat, by omega⟩
    rw [Int.toNat_natCast]
    by_cases h1 : (Ac (mendL l) x).r = 0
    · rw [show markL (mendL l) x r = mendL l by unfold markL; rw [if_neg (fun hh => hh.2.1 h1)], mendL_idem]
      exact refMark_r A l n c x r hn hl (by omega) w h h1
    · have h1' : ((Ac (mendL l) x).r == 0) = false := by simpa using h1
      by_cases h0 : ofZ r = 0
      · by_cases h2 : (Ac (mendL l) x).m.size + (put7 r).size ≤ 32
        · rw [← markU_end l x r (by omega) ⟨h0, h1, h2⟩]
          have := refMark_d A l n c x r hn hl (by omega) w h h1' h0 h2
          rwa [hn] at this ⊢
        · rw [show markL (mendL l) x r = mendL l by unfold markL; rw [if_neg (fun hh => h2 hh.2.2)], mendL_idem]
          exact refMark_l A l n c x r hn hl (by omega) w h h1' h0 (hs x (by omega)) (by omega)
      · rw [show markL (mendL l) x r = mendL l by unfold markL; rw [if_neg (fun hh => h0 hh.1)], mendL_idem]
        exact refMark_w A l n c x r hn hl (by omega) w h h1' _ rfl (by simpa using h0)
  · rw [if_neg hz]
    exact refMark_out A l n c z r hn hl (by omega) w h
end Go.Proofs.YtoiekhjmfoodiaaDoor

namespace Go.Proofs.YtoiekhjmfoodiaaDoor
open Go.RowKit

def txtB (l : List CC) (k : Nat) : ByteArray := ⟨(txtTo l k).toArray⟩
theorem txtB_succ (l : List CC) (k : Nat) : txtB l (k + 1) = txtB l k ++ textC (Ac l k) := by
  unfold txtB
  apply ByteArray.ext
  rw [ByteArray.data_append]
  apply Array.toList_inj.1
  simp [txtTo]
theorem txtB_size (l : List CC) (h : fewMarks l) (k : Nat) (hk : k ≤ l.length) : (txtB l k).size ≤ 1200000 * k := by
  have := txtTo_len l h k hk
  show (txtTo l k).toArray.size ≤ _
  simpa using this
theorem app_empty (s : ByteArray) : s ++ (⟨#[]⟩ : ByteArray) = s := by
  apply ByteArray.ext
  rw [ByteArray.data_append]
  simp
theorem app_assoc (a b c : ByteArray) : a ++ b ++ c = a ++ (b ++ c) := by
  apply ByteArray.ext
  simp only [ByteArray.data_append, Array.append_assoc]
set_option maxRecDepth 100000 in
set_option maxHeartbeats 4000000 in
theorem textRow_none (A : Option Addr) (c : Nat) (w : World) : Calls Tryd.prog 16 #[.slice A 0 c] w fun e w' => e = .returned (.string ⟨#[]⟩) ∧ Below w.heap.size w w' := by
  have hbw : Below w.heap.size w (w.alloc (.cells #[.pointer none, .slice none 0 0] 56)) := belA (Below.refl _ _) _
  have HU : Hid (Calls Tryd.prog 14 #[.slice A 0 c] (w.alloc (.cells #[.pointer none, .slice none 0 0] 56)) fun e w' => e = .returned (.int .i64 0) ∧ Below w.heap.size w w' ∧ Lib.IsBuilder 56 5 w.heap.size w.heap.size (Lib.byteCells []) w') := Lib.hid <| (used_any A [] 0 c rfl (by omega) _ (fun h => absurd rfl h)).mono fun e w' ⟨he, hb⟩ => ⟨he, bel0 hbw hb, IsB.past (Lib.fresh_isBuilder _ _ w) hb⟩
  clear hbw
  go_enter Tryd.func16, Tryd.ntmps16
  go_wp2_with (go_at_call 14; (with_reducible refine (HU.out).mono ?_); rintro e w1 ⟨rfl, hb, hB⟩; have HB1 := Lib.hid hb; have HK1 := Lib.hid hB; clear hb hB)
  go_loopw [11] (fun q wr => q = .int .i64 0 ∧ wr = w1) (fun _ _ => 0)
  case atStart => exact ⟨rfl, rfl⟩
  case round =>
    obtain ⟨rfl, rfl⟩ := hrel
    have HQ : Hid (Calls Tryd.prog 33 #[.pointer (some ⟨w.heap.size, 0, none⟩)] wr fun e w' => e = .returned (.string ⟨([] : List UInt8).toArray⟩) ∧ Below w.heap.size wr w') := Lib.hid (Tryd.Builder_String_any w.heap.size w.heap.size _ wr HK1.out HB1.out.size)
    go_wp2_with (go_at_call 33; (with_reducible refine (HQ.out).mono ?_); rintro e w2 ⟨rfl, hb2⟩; have HB2 := Lib.hid (HB1.out.trans hb2); clear hb2)
    go_ret
    exact ⟨rfl, HB2.out⟩
set_option maxRecDepth 100000 in
set_option maxHeartbeats 4000000 in
theorem refText_any (A : Option Addr) (l : List CC) (n c : Nat) (hn : n = l.length) (hl : n ≤ 1000) (hm : fewMarks l) (w : World) (h : RC w w.heap.size A l) :
    Calls Tryd.prog 17 #[.slice A n c] w fun e w' => e = .returned (.string (txtB l (usedL l))) ∧ Below w.heap.size w w' := by
  have HU : Hid (∀ W, Below w.heap.size w W → Calls Tryd.prog 15 #[.slice A n c] W fun e w' => e = .returned (.int .i64 (usedL l)) ∧ Below W.heap.size W w') := Lib.hid fun W hW => refUsed_any A l n c hn (by omega) W (h.past hW)
  have hu : usedL l ≤ n := by rw [hn]; exact usedTo_le l _
  have HUN := Lib.hid hu
  have HR := Lib.hid h
  have HN := Lib.hid hn
  have HM := Lib.hid hm
  have HPT := Lib.hid rput_any
  clear hn hm h hu
  generalize usedL l = u at *
  go_enter Tryd.func17, Tryd.ntmps17
  go_wp2
  go_loopw [3, 4] (fun sv q wr => ∃ i : Nat, q = .int .i64 i ∧ i ≤ u ∧ sv = .string (txtB l i) ∧ Hid (Below w.heap.size w wr)) (fun _ q _ => u - (intOf q).toNat)
  case atStart => exact ⟨0, rfl, Nat.zero_le _, rfl, Lib.hid (Below.refl _ _)⟩
  case round =>
    obtain ⟨i, rfl, hi, rfl, HB⟩ := hrel
    have HUr := Lib.hid (HU.out wr HB.out)
    by_cases hlt : i < u
    · have hiu : (i : Int) < u := by omega
      have hin : (i : Int) < n := by have := HUN.out; omega
      obtain ⟨b, off, rfl, hat⟩ := HR.out.at (fun e => by have := HN.out; rw [e] at this; simp at this; omega)
      have HG : Hid (∀ W, Below wr.heap.size wr W → C8 W b (off + i * 8) (Ac l i)) := Lib.hid fun W hW => (hat _ (bel0 HB.out hW)).2 i (by have := HN.out; omega)
      have HTX := Lib.hid (txtB_succ l i)
      have hsz := txtB_size l HM.out i (by have := HN.out; have := HUN.out; omega)
      have hmk := HM.out i (by have := HN.out; have := HUN.out; omega)
      have hun := HUN.out
      clear hat
      generalize hy : Ac l i = y at *
      clear hy
      generalize txtB l i = st at *
      by_cases h2 : y.h = 2
      · have HTS : Hid (txtB l (i + 1) = st) := Lib.hid (by rw [HTX.out, show textC y = ⟨#[]⟩ from (by unfold textC; rw [if_pos (.inl h2)]), app_empty])
        clear hsz hmk hun HTX
        go_wp2_with (go_at_call 15; (with_reducible refine (HUr.out).mono ?_); rintro e w1 ⟨rfl, hb1⟩; obtain ⟨a0, a1, a2, a3, a4, a5, a6, a7⟩ := HG.out _ hb1; rw [h2] at a2; have HBF := Lib.hid (bel0 HB.out (belA hb1 (.cells #[.int .i32 y.r, .string y.m, .int .i64 2, .int .i64 y.fk, .int .i64 y.fn, .int .i64 y.bk, .int .i64 y.bn, .int .i64 y.fl] 44))); clear hb1)
        go_roundw
        case rel => exact ⟨i + 1, by go_num, hlt, by rw [HTS.out], HBF⟩
        case measure => simp [intOf]; omega
      · have k2 : (y.h == 2) = false := by simpa using h2
        by_cases h3 : y.h = 3
        · have HTS : Hid (txtB l (i + 1) = st) := Lib.hid (by rw [HTX.out, show textC y = ⟨#[]⟩ from (by unfold textC; rw [if_pos (.inr h3)]), app_empty])
          clear hsz hmk hun HTX k2 h2
          go_wp2_with (go_at_call 15; (with_reducible refine (HUr.out).mono ?_); rintro e w1 ⟨rfl, hb1⟩; obtain ⟨a0, a1, a2, a3, a4, a5, a6, a7⟩ := HG.out _ hb1; rw [h3] at a2; have HBF := Lib.hid (bel0 HB.out (belA hb1 (.cells #[.int .i32 y.r, .string y.m, .int .i64 3, .int .i64 y.fk, .int .i64 y.fn, .int .i64 y.bk, .int .i64 y.bn, .int .i64 y.fl] 44))); clear hb1)
          go_roundw
          case rel => exact ⟨i + 1, by go_num, hlt, by rw [HTS.out], HBF⟩
          case measure => simp [intOf]; omega
        · have k3 : (y.h == 3) = false := by simpa using h3
          by_cases hr : y.r = 0
          · have HTS : Hid (txtB l (i + 1) = st ++ ⟨#[32]⟩) := Lib.hid (by rw [HTX.out, show textC y = ⟨#[32]⟩ from (by unfold textC; rw [if_neg (by simp [h2, h3]), if_pos hr])])
            have hs1 : ¬ (9223372036854775807 < st.size + (⟨#[32]⟩ : ByteArray).size) := by have : (⟨#[32]⟩ : ByteArray).size = 1 := rfl; omega
            have hs2 : ¬ (9223372036854775807 < st.size + 1) := by omega
            clear hmk hun HTX h2 h3
            go_wp2_with (go_at_call 15; (with_reducible refine (HUr.out).mono ?_); rintro e w1 ⟨rfl, hb1⟩; obtain ⟨a0, a1, a2, a3, a4, a5, a6, a7⟩ := HG.out _ hb1; rw [hr] at a0; have HBF := Lib.hid (bel0 HB.out (belA hb1 (.cells #[.int .i32 0, .string y.m, .int .i64 y.h, .int .i64 y.fk, .int .i64 y.fn, .int .i64 y.bk, .int .i64 y.bn, .int .i64 y.fl] 44))); clear hb1)
            go_roundw
            case rel => exact ⟨i + 1, by go_num, hlt, by rw [HTS.out], HBF⟩
            case measure => simp [intOf]; omega
          · have kr : (y.r == 0) = false := by simpa using hr
            have HTS : Hid (txtB l (i + 1) = st ++ put7 y.r ++ y.m) := Lib.hid (by rw [HTX.out, show textC y = put7 y.r ++ y.m from (by unfold textC; rw [if_neg (by simp [h2, h3]), if_neg hr]), app_assoc])
            have hs1 : ¬ (9223372036854775807 < st.size + (put7 y.r).size) := by omega
            have hs2 : ¬ (9223372036854775807 < (st ++ put7 y.r).size + y.m.size) := by rw [ByteArray.size_append]; omega
            have hs3 : ¬ (9223372036854775807 < st.size + (put7 y.r).size + y.m.size) := by omega
            have HPr := Lib.hid (HPT.out y.r)
            have HXN : Hid (∀ W, Below wr.heap.size wr W → (W.alloc (.cells #[.int .i32 y.r, .string y.m, .int .i64 y.h, .int .i64 y.fk, .int .i64 y.fn, .int .i64 y.bk, .int .i64 y.bn, .int .i64 y.fl] 44)).cell? ⟨W.heap.size, 1, none⟩ = some (.string y.m)) := Lib.hid fun W hW => cell_of_row _ _ 1 _ _ _ (heap_alloc_new W _)
            clear hmk hun HTX h2 h3 hr hsz
            generalize put7 y.r = pr at *
            go_wp2_with (go_at_call 15; (with_reducible refine (HUr.out).mono ?_); rintro e w1 ⟨rfl, hb1⟩; obtain ⟨a0, a1, a2, a3, a4, a5, a6, a7⟩ := HG.out _ hb1; have HBF := Lib.hid (bel0 HB.out (belA hb1 (.cells #[.int .i32 y.r, .string y.m, .int .i64 y.h, .int .i64 y.fk, .int .i64 y.fn, .int .i64 y.bk, .int .i64 y.bn, .int .i64 y.fl] 44))); have xm := HXN.out w1 hb1; clear hb1)
            clear a0 a1 a2 a3 a4 a5 a6 a7
            go_region_with (go_at_call 34; (with_reducible refine (HPr.out _).mono ?_); rintro e8 w8 ⟨⟨A8, k8, c8, rfl, hcv8⟩, hbx⟩; have xm8 := (hbx.cell (p := ⟨w1.heap.size, 1, none⟩) (by simp)).trans xm; have HB8 := Lib.hid (bel0 HBF.out (belD hbx)); clear hbx)
            all_goals
              go_wp2
              go_roundw
              case rel => exact ⟨i + 1, by go_num, hlt, by rw [HTS.out], HB8⟩
              case measure => simp [intOf]; omega
    · obtain rfl : i = u := by omega
      go_wp2_with (go_at_call 15; (with_reducible refine (HUr.out).mono ?_); rintro e w1 ⟨rfl, hb1⟩; have HB1 := Lib.hid (bel0 HB.out hb1); clear hb1)
      go_ret
      exact ⟨rfl, HB1.out⟩
end Go.Proofs.YtoiekhjmfoodiaaDoor
