/- The walk of the document's Code; the law OscCodes. -/
import Derived.Test.YtfibbdkfofnojaaDoorRl
import Derived.Test.YtfibbdkfofnojaaDoorXj
namespace Go.Proofs.YtfibbdkfofnojaaDoor
open Go.RowKit Go.Shelf

theorem numF_drop (u : List UInt8) (i n : Nat) (h : i < u.length) : numF n (u.drop i) = numF (n * 10 + (u[i].toNat - 48)) (u.drop (i + 1)) := by
  rw [List.drop_eq_getElem_cons h]; rfl
/-- What the document's Code has counted so far. -/
def CD (u : List UInt8) (i n : Nat) : Prop := numF n (u.drop i) = numF 0 u ∧ n < 10 ^ i ∧ (u.take i).all isDig = true
theorem CD.start (u : List UInt8) : CD u 0 0 := ⟨rfl, by decide, rfl⟩
theorem CD.one {u : List UInt8} {i n : Nat} (h : CD u i n) (hi : i < u.length) (hd : isDig u[i] = true) : CD u (i + 1) (n * 10 + (u[i].toNat - 48)) := by
  obtain ⟨a, b, c⟩ := h
  refine ⟨(numF_drop u i n hi) ▸ a, ?_, ?_⟩
  · have : u[i].toNat - 48 ≤ 9 := by
      unfold isDig at hd
      have := (Bool.and_eq_true _ _ ▸ hd).2
      have := of_decide_eq_true this
      omega
    rw [Nat.pow_succ]; omega
  · rw [List.take_succ_eq_append_getElem hi, List.all_append, c]
    simp [hd]
theorem CD.done {u : List UInt8} {n : Nat} (h : CD u u.length n) : n = numF 0 u ∧ u.all isDig = true := by
  obtain ⟨a, _, c⟩ := h
  rw [List.drop_length] at a
  rw [List.take_length] at c
  exact ⟨a, c⟩
theorem CD.lt {u : List UInt8} {i n : Nat} (h : CD u i n) (hi : i ≤ 9) : n < 1000000000 := Nat.lt_of_lt_of_le h.2.1 (Nat.pow_le_pow_right (by decide) hi)
theorem no_dig {u : List UInt8} {i : Nat} (hi : i < u.length) (hd : isDig u[i] = false) : u.all isDig = false := by
  cases h : u.all isDig with
  | false => rfl
  | true => rw [List.all_eq_true.1 h _ (List.getElem_mem hi)] at hd; cases hd
theorem isCode_of {l : List UInt8} (h1 : 1 ≤ (unsign l).length) (h9 : (unsign l).length ≤ 9) (h : (unsign l).all isDig = true) : isCode l = true := by
  unfold isCode
  rw [h, decide_eq_true h9]
  cases hu : unsign l with
  | nil => rw [hu] at h1; cases h1
  | cons c r => rfl
theorem isCode_no {l : List UInt8} (h : (unsign l).all isDig = false) : isCode l = false := by unfold isCode; rw [h, Bool.and_false]
theorem isCode_len {l : List UInt8} (h : (unsign l).length < 1 ∨ 9 < (unsign l).length) : isCode l = false := by
  unfold isCode
  rcases h with h | h
  · rw [show unsign l = [] from List.eq_nil_of_length_eq_zero (by omega)]; rfl
  · rw [decide_eq_false (by omega), Bool.and_false, Bool.false_and]
theorem codeV_yes {l : List UInt8} (h : isCode l = true) : codeV l = .tuple #[.int .i64 (codeZ l), .bool true] := by unfold codeV; rw [if_pos h]
theorem codeV_no {l : List UInt8} (h : isCode l = false) : codeV l = .tuple #[.int .i64 0, .bool false] := by unfold codeV; rw [if_neg (by rw [h]; decide)]
/-- The document's Code, behind the sign. -/
def CE (l u : List UInt8) (b : Bool) : Prop := unsign l = u ∧ codeZ l = (if b then -(numF 0 u : Int) else (numF 0 u : Int))
theorem ce_minus (r : List UInt8) : CE (45 :: r) r true := ⟨rfl, rfl⟩
theorem ce_plain {l : List UInt8} (h : l.head? ≠ some 45) : CE l l false := by
  have h1 : unsign l = l := by
    unfold unsign
    split
    · exact absurd rfl h
    · rfl
  refine ⟨h1, ?_⟩
  unfold codeZ
  split
  · exact absurd rfl h
  · rfl
theorem wrapSm (x : Int) (h0 : -10000000000 < x) (h1 : x < 100000000000) : IntKind.i64.wrap x = x := by rw [IntKind.wrap_i64]; omega
-- WALK
set_option maxRecDepth 100000 in
set_option maxHeartbeats 4000000 in
theorem refCode_any (l : List UInt8) (hl : l.length ≤ 10000) (w : World) : Calls Tryd.prog 19 #[.string (bsB l)] w fun e w' => e = .returned (codeV l) ∧ Below w.heap.size w w' := by
  obtain ⟨cv, hcv⟩ : ∃ v, v = codeV l := ⟨_, rfl⟩
  rw [← hcv]
  have HNO : Hid (isCode l = false → cv = .tuple #[.int .i64 0, .bool false]) := Lib.hid fun h => by rw [hcv]; exact codeV_no h
  have HYES : Hid (isCode l = true → cv = .tuple #[.int .i64 (codeZ l), .bool true]) := Lib.hid fun h => by rw [hcv]; exact codeV_yes h
  clear hcv
  by_cases hm : l.head? = some 45
  · obtain ⟨r, rfl⟩ : ∃ r, l = 45 :: r := by
      cases l with
      | nil => cases hm
      | cons c r => exact ⟨r, by rw [show c = 45 by simpa using hm]⟩
    have hce := Lib.hid (ce_minus r)
    have j0 := idx0_bs 45 r
    change ∀ W, (Instr.index 9 (.string (bsB (45 :: r))) (.int .i64 0)).run Tryd.prog W = .ok (.int .u8 45) W at j0
    have hcut := tail_cut 45 r
    have hsz : ((bsB (45 :: r)).size : Int) = r.length + 1 := by rw [bsB_size]; simp
    clear hm
    have HI := Lib.hid (idx_bs (r))
    have husz : ((bsB (r)).size : Int) = (r).length := by rw [bsB_size]
    by_cases hshort : (r).length < 1 ∨ 9 < (r).length
    · have HR := Lib.hid (HNO.out (isCode_len (by rw [hce.out.1]; exact hshort)))
      clear HNO HYES hce HI hl
      rcases hshort with hs | hs
      · generalize (r).length = m at *
        generalize bsB (r) = tu at *
        generalize bsB (45 :: r) = t at *
        go_enter Tryd.func19, Tryd.ntmps19
        go_wp2
        all_goals exact bodyPost_ret (v := .tuple #[.int .i64 0, .bool false]) (by simp [results, Tryd.results19, go_sem]) rfl ⟨by rw [HR.out], Below.refl _ _⟩
      · generalize (r).length = m at *
        generalize bsB (r) = tu at *
        generalize bsB (45 :: r) = t at *
        go_enter Tryd.func19, Tryd.ntmps19
        go_wp2
        all_goals exact bodyPost_ret (v := .tuple #[.int .i64 0, .bool false]) (by simp [results, Tryd.results19, go_sem]) rfl ⟨by rw [HR.out], Below.refl _ _⟩
    have hlo : 1 ≤ (r).length := by omega
    have h9 : (r).length ≤ 9 := by omega
    clear hshort
    have HNO2 : Hid (∀ i (hi : i < (r).length), isDig (r)[i] = false → cv = .tuple #[.int .i64 0, .bool false]) := Lib.hid fun i hi hd => HNO.out (isCode_no (by rw [hce.out.1]; exact no_dig hi hd))
    have HYES2 : Hid (∀ n, CD (r) (r).length n → cv = .tuple #[.int .i64 (-(n : Int)), .bool true] ∧ n < 1000000000) := Lib.hid fun n hn => ⟨by rw [HYES.out (isCode_of (by rw [hce.out.1]; exact hlo) (by rw [hce.out.1]; exact h9) (by rw [hce.out.1]; exact hn.done.2)), hce.out.2, ← hn.done.1]; rfl, hn.lt h9⟩
    clear HNO HYES hce hl
    generalize htu : bsB r = tu at *
    replace htu := Lib.hid htu
    generalize bsB (45 :: r) = t at *
    go_enter Tryd.func19, Tryd.ntmps19
    go_wp2
    go_loopw [5, 6] (fun nn ii wr => ∃ i n : Nat, nn = .int .i64 n ∧ ii = .int .i64 i ∧ i ≤ (r).length ∧ Hid (Below w.heap.size w wr) ∧ Hid (CD (r) i n)) (fun _ ii _ => (r).length - (intOf ii).toNat)
    case atStart => exact ⟨0, 0, rfl, rfl, Nat.zero_le _, Lib.hid (Below.refl _ _), Lib.hid (CD.start _)⟩
    case round =>
      obtain ⟨i, n, rfl, rfl, hi, HB, HC⟩ := hrel
      by_cases hlt : i < (r).length
      · have j1 := HI.out i _ (List.getElem?_eq_getElem hlt)
        have HN := Lib.hid (HNO2.out i hlt)
        have HS := Lib.hid (HC.out.one hlt)
        have hn := HC.out.lt (by omega)
        have hil : (i : Int) < (r).length := by omega
        generalize (r)[i] = c at *
        have h256 := c.toNat_lt
        by_cases hclo : c.toNat < 48
        · have HR := Lib.hid (HN.out (by unfold isDig; first | rw [decide_eq_false (show ¬ 48 ≤ c.toNat by omega)]; rfl | rw [decide_eq_false (show ¬ c.toNat ≤ 57 by omega), Bool.and_false]))
          clear HN HS HI HNO2 HYES2 HC
          generalize c.toNat = cn at *
          generalize (r).length = m at *
          go_wp2
          exact bodyPost_ret (v := .tuple #[.int .i64 0, .bool false]) (by simp [results, Tryd.results19, go_sem]) rfl ⟨by rw [HR.out], HB.out⟩
        by_cases hchi : 57 < c.toNat
        · have HR := Lib.hid (HN.out (by unfold isDig; first | rw [decide_eq_false (show ¬ 48 ≤ c.toNat by omega)]; rfl | rw [decide_eq_false (show ¬ c.toNat ≤ 57 by omega), Bool.and_false]))
          clear HN HS HI HNO2 HYES2 HC
          generalize c.toNat = cn at *
          generalize (r).length = m at *
          go_wp2
          exact bodyPost_ret (v := .tuple #[.int .i64 0, .bool false]) (by simp [results, Tryd.results19, go_sem]) rfl ⟨by rw [HR.out], HB.out⟩
        have HS2 := Lib.hid (HS.out (by unfold isDig; rw [decide_eq_true (show 48 ≤ c.toNat by omega), decide_eq_true (show c.toNat ≤ 57 by omega)]; rfl))
        clear HN HS HI HNO2 HYES2 HC
        generalize c.toNat = cn at *
        generalize (r).length = m at *
        go_wp2
        go_roundw
        case rel => exact ⟨i + 1, n * 10 + (cn - 48), by go_num, by go_num, by omega, Lib.hid HB.out, HS2⟩
        case measure => simp [intOf]; omega
      · obtain rfl : i = (r).length := by omega
        obtain ⟨hR, hn⟩ := HYES2.out n HC.out
        have HR := Lib.hid hR
        clear HI HNO2 HYES2 HC hR
        generalize (r).length = m at *
        go_wp2
        exact bodyPost_ret (v := .tuple #[.int .i64 (-(n : Int)), .bool true]) (by simp [results, Tryd.results19, go_sem]) rfl ⟨by rw [HR.out], HB.out⟩
  · have hce := Lib.hid (ce_plain hm)
    cases l with
    | nil =>
      have HR := Lib.hid (HNO.out (isCode_len (.inl (by decide))))
      clear HNO HYES hce hl hm
      change Calls Tryd.prog 19 #[.string ⟨#[]⟩] w _
      go_enter Tryd.func19, Tryd.ntmps19
      go_wp2
      exact bodyPost_ret (v := .tuple #[.int .i64 0, .bool false]) (by simp [results, Tryd.results19, go_sem]) rfl ⟨by rw [HR.out], Below.refl _ _⟩
    | cons c r =>
    have j0 := idx0_bs c r
    have hne : c.toNat ≠ 45 := fun e => hm (by rw [show c = 45 from UInt8.toNat_inj.1 e]; rfl)
    have hsz : (0 : Int) < (bsB (c :: r)).size := by rw [bsB_size]; simp
    generalize c.toNat = c0 at *
    generalize c :: r = l at *
    clear hm
    have HI := Lib.hid (idx_bs (l))
    have husz : ((bsB (l)).size : Int) = (l).length := by rw [bsB_size]
    by_cases hshort : (l).length < 1 ∨ 9 < (l).length
    · have HR := Lib.hid (HNO.out (isCode_len (by rw [hce.out.1]; exact hshort)))
      clear HNO HYES hce HI hl
      rcases hshort with hs | hs
      · generalize (l).length = m at *
        generalize bsB l = t at *
        go_enter Tryd.func19, Tryd.ntmps19
        go_wp2
        all_goals exact bodyPost_ret (v := .tuple #[.int .i64 0, .bool false]) (by simp [results, Tryd.results19, go_sem]) rfl ⟨by rw [HR.out], Below.refl _ _⟩
      · generalize (l).length = m at *
        generalize bsB l = t at *
        go_enter Tryd.func19, Tryd.ntmps19
        go_wp2
        all_goals exact bodyPost_ret (v := .tuple #[.int .i64 0, .bool false]) (by simp [results, Tryd.results19, go_sem]) rfl ⟨by rw [HR.out], Below.refl _ _⟩
    have hlo : 1 ≤ (l).length := by omega
    have h9 : (l).length ≤ 9 := by omega
    clear hshort
    have HNO2 : Hid (∀ i (hi : i < (l).length), isDig (l)[i] = false → cv = .tuple #[.int .i64 0, .bool false]) := Lib.hid fun i hi hd => HNO.out (isCode_no (by rw [hce.out.1]; exact no_dig hi hd))
    have HYES2 : Hid (∀ n, CD (l) (l).length n → cv = .tuple #[.int .i64 n, .bool true] ∧ n < 1000000000) := Lib.hid fun n hn => ⟨by rw [HYES.out (isCode_of (by rw [hce.out.1]; exact hlo) (by rw [hce.out.1]; exact h9) (by rw [hce.out.1]; exact hn.done.2)), hce.out.2, ← hn.done.1]; rfl, hn.lt h9⟩
    clear HNO HYES hce hl
    generalize htu : bsB l = tu at *
    replace htu := Lib.hid htu
    go_enter Tryd.func19, Tryd.ntmps19
    go_wp2
    go_loopw [5, 6] (fun nn ii wr => ∃ i n : Nat, nn = .int .i64 n ∧ ii = .int .i64 i ∧ i ≤ (l).length ∧ Hid (Below w.heap.size w wr) ∧ Hid (CD (l) i n)) (fun _ ii _ => (l).length - (intOf ii).toNat)
    case atStart => exact ⟨0, 0, rfl, rfl, Nat.zero_le _, Lib.hid (Below.refl _ _), Lib.hid (CD.start _)⟩
    case round =>
      obtain ⟨i, n, rfl, rfl, hi, HB, HC⟩ := hrel
      by_cases hlt : i < (l).length
      · have j1 := HI.out i _ (List.getElem?_eq_getElem hlt)
        have HN := Lib.hid (HNO2.out i hlt)
        have HS := Lib.hid (HC.out.one hlt)
        have hn := HC.out.lt (by omega)
        have hil : (i : Int) < (l).length := by omega
        generalize (l)[i] = c at *
        have h256 := c.toNat_lt
        by_cases hclo : c.toNat < 48
        · have HR := Lib.hid (HN.out (by unfold isDig; first | rw [decide_eq_false (show ¬ 48 ≤ c.toNat by omega)]; rfl | rw [decide_eq_false (show ¬ c.toNat ≤ 57 by omega), Bool.and_false]))
          clear HN HS HI HNO2 HYES2 HC
          generalize c.toNat = cn at *
          generalize (l).length = m at *
          go_wp2
          exact bodyPost_ret (v := .tuple #[.int .i64 0, .bool false]) (by simp [results, Tryd.results19, go_sem]) rfl ⟨by rw [HR.out], HB.out⟩
        by_cases hchi : 57 < c.toNat
        · have HR := Lib.hid (HN.out (by unfold isDig; first | rw [decide_eq_false (show ¬ 48 ≤ c.toNat by omega)]; rfl | rw [decide_eq_false (show ¬ c.toNat ≤ 57 by omega), Bool.and_false]))
          clear HN HS HI HNO2 HYES2 HC
          generalize c.toNat = cn at *
          generalize (l).length = m at *
          go_wp2
          exact bodyPost_ret (v := .tuple #[.int .i64 0, .bool false]) (by simp [results, Tryd.results19, go_sem]) rfl ⟨by rw [HR.out], HB.out⟩
        have HS2 := Lib.hid (HS.out (by unfold isDig; rw [decide_eq_true (show 48 ≤ c.toNat by omega), decide_eq_true (show c.toNat ≤ 57 by omega)]; rfl))
        clear HN HS HI HNO2 HYES2 HC
        generalize c.toNat = cn at *
        generalize (l).length = m at *
        go_wp2
        go_roundw
        case rel => exact ⟨i + 1, n * 10 + (cn - 48), by go_num, by go_num, by omega, Lib.hid HB.out, HS2⟩
        case measure => simp [intOf]; omega
      · obtain rfl : i = (l).length := by omega
        obtain ⟨hR, hn⟩ := HYES2.out n HC.out
        have HR := Lib.hid hR
        clear HI HNO2 HYES2 HC hR
        generalize (l).length = m at *
        go_wp2
        exact bodyPost_ret (v := .tuple #[.int .i64 n, .bool true]) (by simp [results, Tryd.results19, go_sem]) rfl ⟨by rw [HR.out], HB.out⟩
end Go.Proofs.YtfibbdkfofnojaaDoor
