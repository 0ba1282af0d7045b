/- The law CellsKeep. -/
import Derived.Test.YtoiekhjmfoodiaaDoorZi
import Derived.Test.YtoiekhjmfoodiaaDoorHn
import Derived.Test.YtoiekhjmfoodiaaDoorHk
namespace Go.Proofs.YtoiekhjmfoodiaaDoor
open Go.RowKit

/-- Bytes that are marks' bytes, one behind the other. -/
def marksE (m : ByteArray) : Prop := m.size ≤ 32 ∧ ∃ rs : List Int, (∀ r ∈ rs, ofZ r = 0) ∧ m = strL (rs.flatMap putL)
theorem ofZ_scalar {r : Int} (h : ofZ r = 0) : scalarB r = true := by
  unfold ofZ at h
  split at h
  · omega
  · rename_i hn
    have hn' : ¬ (r < 32 ∨ (127 ≤ r ∧ r ≤ 159) ∨ (55296 ≤ r ∧ r ≤ 57343) ∨ 1114111 < r) := fun hh => hn (decide_eq_true hh)
    exact decide_eq_true (by omega)
theorem putL_all_lt (rs : List Int) : ∀ z ∈ rs.flatMap putL, z < 256 := fun z hz => by
  obtain ⟨r, _, h⟩ := List.mem_flatMap.1 hz
  exact putL_lt r z h
theorem bytesL_strL (zs : List Nat) (h : ∀ z ∈ zs, z < 256) : bytesL (strL zs) = zs := by
  unfold bytesL strL
  show ((zs.map UInt8.ofNat).toArray.toList).map UInt8.toNat = zs
  rw [List.toList_toArray, List.map_map]
  refine (List.map_congr_left fun z hz => ?_).trans (List.map_id _)
  have := h z hz
  simp [UInt8.toNat_ofNat']
  omega
theorem allL_nil : allL [] = [] := by decide
theorem allL_put : ∀ rs : List Int, (∀ r ∈ rs, ofZ r = 0) → allL (rs.flatMap putL) = rs.map Int.toNat
  | [], _ => by rw [List.flatMap_nil, allL_nil]; rfl
  | r :: rs, h => by
    rw [List.flatMap_cons, all_put r (ofZ_scalar (h r (by simp))) _, allL_put rs fun x hx => h x (List.mem_cons_of_mem _ hx)]
    rfl
theorem marksE_B {m : ByteArray} (h : marksE m) : marksB m = true := by
  obtain ⟨h1, rs, h2, rfl⟩ := h
  unfold marksB
  rw [decide_eq_true h1, Bool.true_and, bytesL_strL _ (putL_all_lt rs), allL_put rs h2]
  rw [Bool.not_eq_true', List.any_eq_false]
  intro x hx
  obtain ⟨r, hr, rfl⟩ := List.mem_map.1 hx
  have h3 := (scalarB_bd (ofZ_scalar (h2 r hr))).1
  unfold notMark
  rw [Int.toNat_of_nonneg h3, h2 r hr]
  decide
theorem marksE_nil : marksE ⟨#[]⟩ := ⟨by decide, [], fun r h => (by cases h), rfl⟩
theorem strL_app (a b : List Nat) : strL (a ++ b) = strL a ++ strL b := by
  apply ByteArray.ext
  rw [ByteArray.data_append]
  apply Array.toList_inj.1
  simp [strL]
theorem marksE_more {m : ByteArray} (h : marksE m) {r : Int} (hr : ofZ r = 0) (hs : m.size + (put7 r).size ≤ 32) : marksE (m ++ put7 r) := by
  obtain ⟨_, rs, h2, rfl⟩ := h
  refine ⟨by rw [ByteArray.size_append]; exact hs, rs ++ [r], fun x hx => ?_, ?_⟩
  · rcases List.mem_append.1 hx with h | h
    · exact h2 x h
    · rw [List.mem_singleton.1 h]; exact hr
  · rw [List.flatMap_append, strL_app, ← putL_put7 r]
    simp
/-- What a right row's cells are, as far as one tells. -/
def okC (y : CC) : Prop := (y.r = 0 → y.m = ⟨#[]⟩ ∧ (y.h = 0 ∨ y.h = 3)) ∧ (y.r ≠ 0 → y.h ≠ 3 ∧ marksE y.m ∧ (y.h = 0 → ofZ y.r = 1) ∧ (y.h ≠ 0 → ofZ y.r = 2))
theorem okC_wrong {y : CC} (h : okC y) : wrongB y = false := by
  unfold wrongB
  by_cases hr : y.r = 0
  · obtain ⟨h1, h2⟩ := h.1 hr
    rw [if_pos hr, h1]
    have e : ((⟨#[]⟩ : ByteArray).toList == []) = true := by rw [ByteArray.toList_eq]; rfl
    rw [e]
    rcases h2 with h2 | h2 <;> rw [h2] <;> rfl
  · obtain ⟨h1, h2, h3, h4⟩ := h.2 hr
    rw [if_neg hr, if_neg h1]
    by_cases h0 : y.h = 0
    · rw [if_pos h0, h3 h0, marksE_B h2]; rfl
    · rw [if_neg h0, h4 h0, marksE_B h2]; rfl
theorem okC_plain {y : CC} (hr : y.r = 0) (hm : y.m = ⟨#[]⟩) (hh : y.h = 0 ∨ y.h = 3) : okC y := ⟨fun _ => ⟨hm, hh⟩, fun h => absurd hr h⟩
theorem ofZ_ne0 {r : Int} (h : ofZ r = 1 ∨ ofZ r = 2) : r ≠ 0 := fun e => by
  subst e
  have : ofZ 0 = -1 := by decide
  omega
def kp (L : List CC) : Prop := ∀ k, okC (Ac L k)
theorem kp_out (L : List CC) (k : Nat) (h : L.length ≤ k) : okC (Ac L k) := by
  unfold Ac
  rw [List.getElem?_eq_none h]
  exact okC_plain rfl rfl (.inl rfl)
theorem kp_set {L : List CC} (h : kp L) (i : Nat) (y : CC) (hy : okC y) : kp (L.set i y) := fun k => by
  by_cases hi : i < L.length
  · rw [Ac_set _ _ _ _ hi]
    split
    · exact hy
    · exact h k
  · rw [List.set_eq_of_length_le (by omega)]
    exact h k
theorem kp_blankK {L : List CC} (h : kp L) (s : Nat) (x : CC) (hx : okC x) : ∀ k, kp (blankK L s x k)
  | 0 => h
  | k + 1 => kp_set (kp_blankK h s x hx k) _ _ hx
theorem kp_map (n : Nat) (f : Nat → CC) (h : ∀ i, okC (f i)) : kp ((List.range n).map f) := fun k => by
  by_cases hk : k < n
  · rw [Ac_map _ _ _ hk]
    exact h k
  · exact kp_out _ _ (by simp; omega)
theorem kp_cons {x : CC} {L : List CC} (h : okC x) (hL : kp L) : kp (x :: L) := fun k => by
  match k with
  | 0 => exact h
  | k + 1 => rw [Ac_one]; exact hL k
theorem kp_tail {x : CC} {L : List CC} (h : kp (x :: L)) : kp L := fun k => by
  have := h (k + 1)
  rwa [Ac_one] at this
theorem okC_bare (x : CC) : okC (bare x) := okC_plain rfl rfl (.inl rfl)
theorem kp_mend : ∀ (L : List CC), kp L → kp (mendL L)
  | [], h => h
  | [x], h => by
    show kp [if x.h = 0 ∨ x.h = 3 then x else bare x]
    refine kp_cons ?_ (kp_tail h)
    split
    · exact h 0
    · exact okC_bare x
  | x :: y :: t, h => by
    rw [mendL_duo]
    split
    · exact kp_cons (h 0) (kp_cons (h 1) (kp_mend t (kp_tail (kp_tail h))))
    · refine kp_cons ?_ (kp_mend (y :: t) (kp_tail h))
      split
      · exact h 0
      · exact okC_bare x
theorem okC_put (x : CC) (h : ofZ x.r = 1) : okC (putC x) := ⟨fun e => absurd e (ofZ_ne0 (.inl h)), fun _ => ⟨fun e => absurd (show (0 : Int) = 3 from e) (by decide), marksE_nil, fun _ => h, fun e => absurd rfl e⟩⟩
theorem okC_left (x : CC) (h : ofZ x.r = 2) : okC (leftC x) := ⟨fun e => absurd e (ofZ_ne0 (.inr h)), fun _ => ⟨fun e => absurd (show (1 : Int) = 3 from e) (by decide), marksE_nil, fun e => absurd (show (1 : Int) = 0 from e) (by decide), fun _ => h⟩⟩
theorem okC_right (x : CC) (h : ofZ x.r = 2) : okC (rightC x) := ⟨fun e => absurd e (ofZ_ne0 (.inr h)), fun _ => ⟨fun e => absurd (show (2 : Int) = 3 from e) (by decide), marksE_nil, fun e => absurd (show (2 : Int) = 0 from e) (by decide), fun _ => h⟩⟩
theorem okC_more {y : CC} (h : okC y) (hr : y.r ≠ 0) {r : Int} (h0 : ofZ r = 0) (hs : y.m.size + (put7 r).size ≤ 32) : okC (moreC y (put7 r)) := by
  obtain ⟨h1, h2, h3, h4⟩ := h.2 hr
  exact ⟨fun e => absurd e hr, fun _ => ⟨h1, marksE_more h2 h0 hs, h3, h4⟩⟩
theorem okC_half {y : CC} (h : okC y) (hr : y.r ≠ 0) (hh : y.h ≠ 0) (k : Int) (hk : k = 1 ∨ k = 2) : okC (halfC y k) := by
  obtain ⟨_, h2, _, h4⟩ := h.2 hr
  refine ⟨fun e => absurd e hr, fun _ => ⟨fun e => ?_, h2, fun e => ?_, fun _ => h4 hh⟩⟩
  · have e : k = 3 := e
    omega
  · have e : k = 0 := e
    omega
theorem kp_opRow {L : List CC} (h : kp L) (o : OP) : kp (opRow L o) := by
  have hm := kp_mend L h
  have hb : ∀ bk bn, okC (blankC bk bn) := fun _ _ => okC_plain rfl rfl (.inl rfl)
  unfold opRow
  split
  · unfold putRow
    split
    · refine kp_mend _ ?_
      split
      · rename_i h1
        exact kp_set hm _ _ (okC_put _ h1)
      · split
        · rename_i h1
          exact kp_set (kp_set hm _ _ (okC_left _ h1.1)) _ _ (okC_right _ h1.1)
        · exact hm
    · exact hm
  · split
    · unfold markRow
      split
      · refine kp_mend _ ?_
        unfold markL
        split
        · rename_i hc
          have h1 := okC_more (hm o.x.toNat) hc.2.1 hc.1 hc.2.2
          split
          · rename_i hh
            exact kp_set (kp_set hm _ _ h1) _ _ (okC_half h1 hc.2.1 (by show (Ac (mendL L) o.x.toNat).h ≠ 0; rw [hh]; decide) 2 (.inr rfl))
          · split
            · rename_i hh
              exact kp_set (kp_set hm _ _ h1) _ _ (okC_half h1 hc.2.1 (by show (Ac (mendL L) o.x.toNat).h ≠ 0; rw [hh]; decide) 1 (.inl rfl))
            · exact kp_set hm _ _ h1
        · exact hm
      · exact hm
    · split
      · unfold eraseZ eraseL
        split
        · exact kp_mend _ (kp_blankK hm _ _ (hb _ _) _)
        · exact hm
      · split
        · rw [ins_same]
          refine kp_mend _ ?_
          unfold insT
          split
          · refine kp_map _ _ fun i => ?_
            split
            · exact hm i
            · split
              · exact hb _ _
              · exact hm _
          · exact hm
        · split
          · rw [del_same]
            refine kp_mend _ ?_
            unfold delT
            split
            · refine kp_map _ _ fun i => ?_
              split
              · exact hm i
              · split
                · exact hm _
                · exact hb _ _
            · exact hm
          · split
            · unfold closeRow
              split
              · exact kp_mend _ (kp_set hm _ _ (okC_plain rfl rfl (.inr rfl)))
              · exact hm
            · exact hm
theorem opRow_mended (L : List CC) (o : OP) : mendL (opRow L o) = opRow L o := by
  unfold opRow putRow markRow eraseZ eraseL insRow delRow closeRow
  repeat' split
  all_goals rw [mendL_idem]
theorem ok_size {y : CC} (h : okC y) : y.m.size ≤ 32 := by
  by_cases hr : y.r = 0
  · rw [(h.1 hr).1]; decide
  · exact (h.2 hr).2.1.1
/-- A right row of n cells. -/
structure KL (n : Nat) (W : World) (A : Option Addr) (L : List CC) : Prop where
  rc : RC W W.heap.size A L
  len : L.length = n
  ok : kp L
  mended : mendL L = L
theorem KL.past {n : Nat} {W W' : World} {A : Option Addr} {L : List CC} (h : KL n W A L) (hb : Below W.heap.size W W') : KL n W' A L := ⟨h.rc.past hb, h.len, h.ok, h.mended⟩
theorem rightKL (n c : Nat) (hn : n ≤ 1000) (A : Option Addr) (L : List CC) (W : World) (hG : GT W) (h : KL n W A L) : Calls Tryd.prog 9 #[.slice A n c] W fun e w' => e = .returned (.bool true) ∧ Below W.heap.size W w' := by
  have h1 := rightRow_any A L n c h.len.symm hn W hG h.rc
  rwa [h.mended, sameC_self, anyC_no (fun k _ => okC_wrong (h.ok k))] at h1
theorem aloneKL (n c : Nat) (hn : n ≤ 1000) (A : Option Addr) (L : List CC) (o : OP) (W : World) (hT : WT W) (h : KL n W A L) : Calls Tryd.prog 19 #[.slice A n c, .agg #[.int .i64 o.k, .int .i64 o.x, .int .i64 o.n, .int .i32 o.c.r, .int .i64 o.c.fk, .int .i64 o.c.fn, .int .i64 o.c.bk, .int .i64 o.c.bn, .int .i64 o.c.fl]] W fun e w' => (∃ A' c', e = .returned (.slice A' n c') ∧ KL n w' A' (opRow L o)) ∧ Below W.heap.size W w' :=
  (alone_any A L n c o h.len.symm hn (fun x _ => by rw [h.mended]; exact Nat.le_trans (ok_size (h.ok x)) (by decide)) W hT h.rc).mono fun e w' ⟨v, he, hv, hb⟩ => by
    obtain ⟨A', c', e', hr⟩ := hv.form
    exact ⟨⟨A', c', by rw [he, e', opRow_len, h.len], hr, by rw [opRow_len, h.len], kp_opRow h.ok o, opRow_mended L o⟩, hb⟩
set_option maxRecDepth 100000 in
set_option maxHeartbeats 4000000 in
theorem keep_law (z : Int) (hz0 : 0 ≤ z) (hz1 : z < 256) (Bd : Option Addr) (os : List OP) (m c' : Nat) (hm : m = os.length) (w : World) (hG : GT w) (ho : RO w Bd os) : Calls Tryd.prog 4 #[.int .u8 z, .slice Bd m c'] w fun e w' => e = .returned (.bool true) ∧ Below w.heap.size w w' := by
  have HAW : Hid (∀ W, Below w.heap.size w W → Calls Tryd.prog 8 #[] W fun e w' => e = .returned (.bool true) ∧ Below W.heap.size W w') := Lib.hid fun W hW => awake_any W (hG.below hW).wt
  by_cases hm4 : 60 < m
  · have hd : decide ((60 : Int) < (m : Int)) = true := decide_eq_true (by omega)
    have hd' : decide (60 < m) = true := decide_eq_true hm4
    have HAr := Lib.hid (HAW.out w (Below.refl _ _))
    clear hm4 hm ho hG HAW hz0 hz1
    go_enter Tryd.func4, Tryd.ntmps4
    go_wp2_with (go_at_call 8; (with_reducible refine (HAr.out).mono ?_); rintro e w5 ⟨rfl, hb⟩; have HB5 := Lib.hid hb; clear hb)
    go_ret
    exact ⟨rfl, HB5.out⟩
  obtain ⟨n, rfl⟩ : ∃ n : Nat, z = n := ⟨z.toNat, by omega⟩
  have hn : n ≤ 1000 := by omega
  have H1 : Hid (Calls Tryd.prog 18 #[.int .i64 n, .agg #[.int .i64 0, .int .i64 0]] w fun e w' => (∃ A c L, e = .returned (.slice A n c) ∧ KL n w' A L) ∧ Below w.heap.size w w') := Lib.hid <| (blanks_any n 0 0 n (by omega) w).mono fun e w' ⟨v, he, ho, hb⟩ => by
    obtain ⟨A, c, e', hr⟩ := ho.form
    refine ⟨⟨A, c, _, by rw [he, e', List.length_replicate], hr, by simp, fun k => ?_, mendL_plain _ fun x hx => ?_⟩, hb⟩
    · by_cases hk : k < n
      · unfold Ac
        rw [List.getElem?_replicate, if_pos hk]
        exact okC_plain rfl rfl (.inl rfl)
      · exact kp_out _ _ (by simp; omega)
    · rw [(List.mem_replicate.1 hx).2]
      rfl
  have HAL : Hid (∀ A c L (o : OP) W, Below w.heap.size w W → KL n W A L → Calls Tryd.prog 19 #[.slice A n c, .agg #[.int .i64 o.k, .int .i64 o.x, .int .i64 o.n, .int .i32 o.c.r, .int .i64 o.c.fk, .int .i64 o.c.fn, .int .i64 o.c.bk, .int .i64 o.c.bn, .int .i64 o.c.fl]] W fun e w' => (∃ A' c', e = .returned (.slice A' n c') ∧ KL n w' A' (opRow L o)) ∧ Below W.heap.size W w') := Lib.hid fun A c L o W hW hk => aloneKL n c hn A L o W (hG.below hW).wt hk
  have HRT : Hid (∀ A c L W, Below w.heap.size w W → KL n W A L → Calls Tryd.prog 9 #[.slice A n c] W fun e w' => e = .returned (.bool true) ∧ Below W.heap.size W w') := Lib.hid fun A c L W hW hk => rightKL n c hn A L W (hG.below hW) hk
  have HRO : Hid (os ≠ [] → ∃ b off, Bd = some ⟨b, off, none⟩ ∧ ∀ W, Below w.heap.size w W → ∀ k, k < os.length → O9 W b (off + k * 9) (Ao os k)) := Lib.hid ho.at
  have HML := Lib.hid hm
  have hd : decide ((60 : Int) < (m : Int)) = false := decide_eq_false (by omega)
  have hd' : decide (60 < m) = false := decide_eq_false hm4
  have hm60 : m ≤ 60 := by omega
  have hn256 : (n : Int) < 256 := hz1
  have hwn : IntKind.i64.wrap (n : Int) = (n : Int) := IntWalk.i64_in _ (by omega)
  clear hz0 hz1 ho hG hm hm4
  go_enter Tryd.func4, Tryd.ntmps4
  go_wp2_with (go_at_call 18; (with_reducible refine (H1.out).mono ?_); rintro e w1 ⟨⟨A1, c1, L1, rfl, hk1⟩, hb1⟩; have HK1 := Lib.hid hk1; have HB1 := Lib.hid hb1; clear hk1 hb1)
  go_loopw [5, 6] (fun v i wr => ∃ (j : Nat) (A : Option Addr) (c : Nat) (L : List CC), v = .slice A n c ∧ j ≤ m ∧ i = .int .i64 j ∧ Hid (KL n wr A L) ∧ Hid (Below w.heap.size w wr)) (fun _ i _ => m - (intOf i).toNat)
  case atStart => exact ⟨0, A1, c1, L1, rfl, Nat.zero_le _, rfl, HK1, HB1⟩
  case round =>
    obtain ⟨j, A, c, L, rfl, hj, rfl, HK, HB⟩ := hrel
    by_cases hlt : j < m
    · have hne : os ≠ [] := fun e => by have := HML.out; rw [e] at this; simp at this; omega
      obtain ⟨b, off, rfl, hat⟩ := HRO.out hne
      obtain ⟨o0, o1, o2, o3, o4, o5, o6, o7, o8⟩ := hat wr HB.out j (by rw [← HML.out]; exact hlt)
      have hjm : (j : Int) < m := by omega
      have HDr := Lib.hid (HAL.out A c L (Ao os j) wr HB.out HK.out)
      clear hat hne
      generalize Ao os j = o at *
      generalize opRow L o = L2 at *
      go_wp2_with (first
        | (go_at_call 19; (with_reducible refine (HDr.out).mono ?_); rintro e w11 ⟨⟨A2, c2, rfl, hk2⟩, hb11⟩; have HK2 := Lib.hid hk2; have HB11 := Lib.hid (bel0 HB.out hb11); clear hk2 hb11)
        | (go_at_call 9; (with_reducible refine (HRT.out _ _ _ _ HB11.out HK2.out).mono ?_); rintro e w12 ⟨rfl, hb12⟩; have HK12 := Lib.hid (HK2.out.past hb12); have HB12 := Lib.hid (bel0 HB11.out hb12); clear hb12))
      go_roundw
      case rel => exact ⟨j + 1, A2, c2, L2, rfl, hlt, by go_num, HK12, HB12⟩
      case measure => simp [intOf]; omega
    · have HAr := Lib.hid (HAW.out wr HB.out)
      go_wp2_with (go_at_call 8; (with_reducible refine (HAr.out).mono ?_); rintro e w17 ⟨rfl, hb17⟩; have HB17 := Lib.hid (bel0 HB.out hb17); clear hb17)
      go_ret
      exact ⟨rfl, HB17.out⟩
end Go.Proofs.YtoiekhjmfoodiaaDoor
