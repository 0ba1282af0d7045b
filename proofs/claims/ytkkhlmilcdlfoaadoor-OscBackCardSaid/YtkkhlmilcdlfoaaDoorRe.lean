/- The walk of Code. -/
import Derived.Test.YtkkhlmilcdlfoaaDoorRd
import Derived.Laws.RangeAny
namespace Go.Proofs.YtkkhlmilcdlfoaaDoor
open Go.RowKit Go.Lib

/-- What stands behind a sign. -/
def unsign (l : List UInt8) : List UInt8 := match l with
  | 45 :: r => r
  | _ => l
def isDig (c : UInt8) : Bool := decide (48 ≤ c.toNat) && decide (c.toNat ≤ 57)
/-- Whether a text is a code's. -/
def isCode (l : List UInt8) : Bool := (unsign l != []) && decide ((unsign l).length ≤ 9) && (unsign l).all isDig
/-- The number that digits are. -/
def numF (acc : Nat) : List UInt8 → Nat
  | [] => acc
  | c :: r => numF (acc * 10 + (c.toNat - 48)) r
/-- A code's number. -/
def codeZ (l : List UInt8) : Int := match l with
  | 45 :: r => -(numF 0 r : Int)
  | _ => numF 0 l
/-- What Code answers. -/
def codeV (l : List UInt8) : Value := if isCode l then .tuple #[.int .i64 (codeZ l), .bool true] else .tuple #[.int .i64 0, .bool false]
theorem unsign_eq (l : List UInt8) : Lib.trimPrefix l [45] = unsign l := by
  unfold Lib.trimPrefix unsign
  cases l with
  | nil => rfl
  | cons c r =>
    by_cases hc : c = 45
    · subst hc; rfl
    · have h1 : Lib.hasPrefix (c :: r) [45] = false := by
        show List.isPrefixOf [45] (c :: r) = false
        simp [List.isPrefixOf, Ne.symm hc]
      rw [h1]
      simp
      split
      · rename_i e; injection e with e1 _; exact absurd e1 hc
      · rfl
def noDig (r : Nat) : Bool := decide (r < 48) || decide (57 < r)
theorem idx_digs (l : List UInt8) : ∀ (f pos : Nat), l.length ≤ pos + f → (∀ c ∈ l.drop pos, isDig c = true) → Lib.idxFuncFrom noDig true (bsB l) f pos = -1
  | 0, _, _, _ => rfl
  | f + 1, pos, h, hd => by
    unfold Lib.idxFuncFrom
    by_cases hp : pos < (bsB l).size
    · rw [if_pos hp]
      have hpl : pos < l.length := by rwa [bsB_size] at hp
      have hc : isDig (l[pos]'hpl) = true := hd _ (by rw [List.drop_eq_getElem_cons hpl]; exact List.mem_cons_self)
      have hc2 : 48 ≤ (l[pos]'hpl).toNat ∧ (l[pos]'hpl).toNat ≤ 57 := by
        unfold isDig at hc
        simpa using hc
      have he : (bsB l)[pos]'hp = l[pos]'hpl := rfl
      have hdec := Go.decode_ascii (bsB l) pos hp (by rw [he]; omega)
      rw [hdec, he]
      have hn : noDig (l[pos]'hpl).toNat = false := by unfold noDig; rw [decide_eq_false (by omega), decide_eq_false (by omega)]; rfl
      rw [if_neg (by rw [hn]; decide)]
      exact idx_digs l f (pos + 1) (by omega) (fun c hc => hd c (by rw [List.drop_eq_getElem_cons hpl]; exact List.mem_cons_of_mem _ hc))
    · rw [if_neg hp]
theorem idx_nodig (l : List UInt8) : ∀ (f pos : Nat), l.length ≤ pos + f → (∃ c ∈ l.drop pos, isDig c = false) → 0 ≤ Lib.idxFuncFrom noDig true (bsB l) f pos
  | 0, pos, h, ⟨c, hc, _⟩ => by rw [List.drop_eq_nil_of_le (by omega)] at hc; cases hc
  | f + 1, pos, h, ⟨c, hc, hd⟩ => by
    unfold Lib.idxFuncFrom
    by_cases hp : pos < (bsB l).size
    · rw [if_pos hp]
      have hpl : pos < l.length := by rwa [bsB_size] at hp
      have he : (bsB l)[pos]'hp = l[pos]'hpl := rfl
      by_cases hq : isDig (l[pos]'hpl) = true
      · have hc2 : 48 ≤ (l[pos]'hpl).toNat ∧ (l[pos]'hpl).toNat ≤ 57 := by
          unfold isDig at hq
          simpa using hq
        have hdec := Go.decode_ascii (bsB l) pos hp (by rw [he]; omega)
        rw [hdec, he]
        have hn : noDig (l[pos]'hpl).toNat = false := by unfold noDig; rw [decide_eq_false (by omega), decide_eq_false (by omega)]; rfl
        rw [if_neg (by rw [hn]; decide)]
        refine idx_nodig l f (pos + 1) (by omega) ⟨c, ?_, hd⟩
        rw [List.drop_eq_getElem_cons hpl] at hc
        rcases List.mem_cons.1 hc with rfl | hc
        · rw [hq] at hd; cases hd
        · exact hc
      · have hn : noDig (Utf8.decode (bsB l) pos).1 = true := by
          unfold noDig
          by_cases h8 : (l[pos]'hpl).toNat < 128
          · rw [Go.decode_ascii (bsB l) pos hp (by rw [he]; exact h8), he]
            unfold isDig at hq
            simp at hq ⊢
            omega
          · have h1 := (decode_high (bsB l) pos hp (by rw [he]; omega)).1
            simp
            omega
        rw [if_pos hn]
        omega
    · rw [List.drop_eq_nil_of_le (by rw [bsB_size] at hp; omega)] at hc; cases hc
theorem idx_any (l : List UInt8) : decide (0 ≤ Lib.idxFunc noDig true (bsB l)) = !l.all isDig := by
  unfold Lib.idxFunc
  by_cases h : ∀ c ∈ l, isDig c = true
  · rw [idx_digs l _ 0 (by rw [bsB_size]; omega) h, List.all_eq_true.2 h]; rfl
  · have h2 : ∃ c ∈ l, isDig c = false := by
      refine Classical.byContradiction fun hn => h fun c hc => ?_
      cases hd : isDig c with
      | true => rfl
      | false => exact absurd ⟨c, hc, hd⟩ hn
    rw [decide_eq_true (idx_nodig l _ 0 (by rw [bsB_size]; omega) h2)]
    cases ha : l.all isDig with
    | false => rfl
    | true => exact absurd (List.all_eq_true.1 ha) h
theorem parse10 : ∀ (l : List UInt8) (acc : Nat), l.all isDig = true → acc * 10 ^ l.length + 10 ^ l.length ≤ 10 ^ 9 → Lib.parseUint10 acc l = .ok (numF acc l)
  | [], acc, _, _ => rfl
  | c :: r, acc, hd, hb => by
    obtain ⟨h1, h2⟩ := (by simpa using hd : isDig c = true ∧ ∀ x ∈ r, isDig x = true)
    have hc : 48 ≤ c.toNat ∧ c.toNat ≤ 57 := by unfold isDig at h1; simpa using h1
    have hp : 1 ≤ 10 ^ r.length := Nat.one_le_pow _ _ (by decide)
    rw [List.length_cons, Nat.pow_succ] at hb
    have hb2 : (acc * 10 + (c.toNat - 48)) * 10 ^ r.length + 10 ^ r.length ≤ 10 ^ 9 := by
      have h9 : (acc * 10 + (c.toNat - 48)) * 10 ^ r.length ≤ (acc * 10 + 9) * 10 ^ r.length := Nat.mul_le_mul_right _ (by omega)
      have h10 : (acc * 10 + 9) * 10 ^ r.length + 10 ^ r.length = acc * (10 ^ r.length * 10) + 10 ^ r.length * 10 := by
        rw [Nat.add_mul, Nat.mul_assoc, Nat.mul_comm 10 (10 ^ r.length)]; omega
      omega
    have hacc : acc * 10 + 9 < 10 ^ 9 := by
      have h11 : (acc * 10 + 9) * 1 ≤ (acc * 10 + 9) * 10 ^ r.length := Nat.mul_le_mul_left _ hp
      have h10 : (acc * 10 + 9) * 10 ^ r.length + 10 ^ r.length = acc * (10 ^ r.length * 10) + 10 ^ r.length * 10 := by
        rw [Nat.add_mul, Nat.mul_assoc, Nat.mul_comm 10 (10 ^ r.length)]; omega
      omega
    have e9 : (10 : Nat) ^ 9 = 1000000000 := by decide
    unfold Lib.parseUint10
    rw [if_pos hc, if_neg (by omega), if_neg (by omega)]
    exact parse10 r _ (List.all_eq_true.2 h2) hb2
theorem numF_lt (l : List UInt8) (h : l.all isDig = true) (h9 : l.length ≤ 9) : numF 0 l < 18446744073709551616 := by
  have hp := parse10 l 0 h (by
    rw [Nat.zero_mul, Nat.zero_add]
    exact Nat.pow_le_pow_right (by decide) h9)
  exact Lib.parseUint10_lt l 0 _ (by decide) hp
theorem numF_le : ∀ (l : List UInt8) (acc : Nat), l.all isDig = true → acc * 10 ^ l.length + 10 ^ l.length ≤ 10 ^ 9 → numF acc l < 10 ^ 9
  | [], acc, _, hb => by
    show acc < 10 ^ 9
    simp at hb
    omega
  | c :: r, acc, hd, hb => by
    obtain ⟨h1, h2⟩ := (by simpa using hd : isDig c = true ∧ ∀ x ∈ r, isDig x = true)
    have hc : 48 ≤ c.toNat ∧ c.toNat ≤ 57 := by unfold isDig at h1; simpa using h1
    rw [List.length_cons, Nat.pow_succ] at hb
    have hb2 : (acc * 10 + (c.toNat - 48)) * 10 ^ r.length + 10 ^ r.length ≤ 10 ^ 9 := by
      have h9 : (acc * 10 + (c.toNat - 48)) * 10 ^ r.length ≤ (acc * 10 + 9) * 10 ^ r.length := Nat.mul_le_mul_right _ (by omega)
      have h10 : (acc * 10 + 9) * 10 ^ r.length + 10 ^ r.length = acc * (10 ^ r.length * 10) + 10 ^ r.length * 10 := by
        rw [Nat.add_mul, Nat.mul_assoc, Nat.mul_comm 10 (10 ^ r.length)]; omega
      omega
    exact numF_le r _ (List.all_eq_true.2 h2) hb2
theorem pow9 {n : Nat} (h : n ≤ 9) : 0 * 10 ^ n + 10 ^ n ≤ 10 ^ 9 := by
  rw [Nat.zero_mul, Nat.zero_add]
  exact Nat.pow_le_pow_right (by decide) h
theorem atoi_code (l : List UInt8) (h : isCode l = true) : Lib.atoiAll l = .ok (codeZ l) := by
  unfold isCode at h
  simp only [Bool.and_eq_true, decide_eq_true_eq, bne_iff_ne] at h
  obtain ⟨⟨h1, h2⟩, h3⟩ := h
  match l, h1, h2, h3 with
  | [], h1, _, _ => exact absurd rfl h1
  | c :: r, h1, h2, h3 =>
    by_cases hc : c = 45
    · subst hc
      have h1 : r ≠ [] := h1
      have h2 : r.length ≤ 9 := h2
      have h3 : r.all isDig = true := h3
      unfold Lib.atoiAll
      have hm : Lib.parseMag r = .ok (numF 0 r) := by unfold Lib.parseMag; rw [if_neg h1]; exact parse10 r 0 h3 (pow9 h2)
      have hb := numF_le r 0 h3 (pow9 h2)
      have e9 : (10 : Nat) ^ 9 = 1000000000 := by decide
      dsimp only
      rw [if_pos (.inr rfl), hm]
      show (if ¬ ((45 : UInt8).toNat = 45) ∧ _ then Lib.NumEnd.range else if (45 : UInt8).toNat = 45 ∧ 9223372036854775808 < numF 0 r then Lib.NumEnd.range else .ok (if (45 : UInt8).toNat = 45 then -(numF 0 r : Int) else numF 0 r)) = .ok (-(numF 0 r : Int))
      rw [if_neg (by simp), if_neg (by omega), if_pos (show (45 : UInt8).toNat = 45 from rfl)]
    · have hu : unsign (c :: r) = c :: r := by
        unfold unsign
        split
        · rename_i e; injection e with e1 _; exact absurd e1 hc
        · rfl
      have hz : codeZ (c :: r) = numF 0 (c :: r) := by
        unfold codeZ
        split
        · rename_i e; injection e with e1 _; exact absurd e1 hc
        · rfl
      rw [hu] at h2 h3
      have hcd : isDig c = true := by simpa using (List.all_eq_true.1 h3 c List.mem_cons_self)
      have hcn : 48 ≤ c.toNat ∧ c.toNat ≤ 57 := by unfold isDig at hcd; simpa using hcd
      have hm : Lib.parseMag (c :: r) = .ok (numF 0 (c :: r)) := by unfold Lib.parseMag; rw [if_neg (by simp)]; exact parse10 _ 0 h3 (pow9 h2)
      have hb := numF_le (c :: r) 0 h3 (pow9 h2)
      have e9 : (10 : Nat) ^ 9 = 1000000000 := by decide
      rw [hz]
      unfold Lib.atoiAll
      dsimp only
      rw [if_neg (by omega), hm]
      show (if ¬ (c.toNat = 45) ∧ 9223372036854775808 ≤ numF 0 (c :: r) then Lib.NumEnd.range else if c.toNat = 45 ∧ 9223372036854775808 < numF 0 (c :: r) then Lib.NumEnd.range else .ok (if c.toNat = 45 then -(numF 0 (c :: r) : Int) else numF 0 (c :: r))) = .ok _
      rw [if_neg (by omega), if_neg (by omega), if_neg (by omega)]
set_option maxRecDepth 100000 in
theorem noDigit_any (x : Nat) (w : World) : Calls Tryd.prog 39 #[.int .i32 x] w fun e w' => e = .returned (.bool (noDig x)) ∧ w' = w := by
  have HN : Hid (noDig x = (decide (x < 48) || decide (57 < x))) := Lib.hid rfl
  generalize noDig x = r at *
  go_enter Tryd.func39, Tryd.ntmps39
  go_wp2
  all_goals
    go_ret
    refine ⟨?_, rfl⟩
    rw [HN.out]
    refine congrArg (fun b => Ending.returned (Value.bool b)) ?_
    rw [Bool.eq_iff_iff]
    simp only [Bool.or_eq_true, decide_eq_true_eq, true_iff]
    omega
theorem encI (args : Array Value) (w : World) : (callFunc 39 args).run Tryd.prog w = .ok (.enter 39 args) w := (enters_of Tryd.func39 (by kernel_rfl) rfl) args w
set_option maxRecDepth 100000 in
set_option maxHeartbeats 2000000 in
theorem code_any (l : List UInt8) (hl : l.length ≤ 1000000) (w : World) : Calls Tryd.prog 18 #[.string (bsB l)] w fun e w' => e = .returned (codeV l) ∧ Below w.heap.size w w' := by
  have HT : Hid (Calls Tryd.prog 37 #[.string (bsB l), .string ⟨#[45]⟩] w fun e w' => e = .returned (.string (bsB (unsign l))) ∧ w' = w) := Lib.hid (by
    have h := Tryd.strings_TrimPrefix (bsB l) ⟨#[45]⟩ w
    rw [show Lib.trimPrefix (bsB l).data.toList (ByteArray.mk #[45]).data.toList = unsign l from unsign_eq l] at h
    exact h)
  have HCF : Hid (Calls Tryd.prog 38 #[.string (bsB (unsign l)), .func (.func 39) #[] #[]] w fun e w' => e = .returned (.bool (!(unsign l).all isDig)) ∧ Below w.heap.size w w') := Lib.hid (by
    have h := Tryd.strings_ContainsFunc_runes 39 #[] encI noDig (bsB (unsign l)) w (fun W x _ _ => by
      show Calls _ _ (#[.int .i32 (x : Int)] ++ #[]) W _
      exact (noDigit_any x W).mono fun e w' ⟨h1, h2⟩ => ⟨h1, 0, h2⟩)
    rwa [idx_any] at h)
  have hsz : ((bsB (unsign l)).size : Int) = (unsign l).length := by rw [bsB_size]
  have HV : Hid (codeV l = if isCode l then .tuple #[.int .i64 (codeZ l), .bool true] else .tuple #[.int .i64 0, .bool false]) := Lib.hid rfl
  obtain ⟨cv, hcv⟩ : ∃ v, v = codeV l := ⟨_, rfl⟩
  rw [← hcv] at HV ⊢
  clear hcv
  have hic : isCode l = ((unsign l != []) && decide ((unsign l).length ≤ 9) && (unsign l).all isDig) := rfl
  by_cases h0 : unsign l = []
  · have HE : Hid (cv = .tuple #[.int .i64 0, .bool false]) := Lib.hid (by rw [HV.out, hic, h0]; rfl)
    have he : (bsB (unsign l)).toList.isEmpty = true := by rw [bs_toList, h0]; rfl
    clear HV hic h0 hl
    generalize bsB (unsign l) = u at *
    generalize bsB l = t at *
    go_enter Tryd.func18, Tryd.ntmps18
    go_wp2_with (go_at_call 37; (with_reducible refine (HT.out).mono ?_); rintro e w1 ⟨rfl, rfl⟩)
    go_ret2
    exact ⟨by rw [HE.out]; rfl, Below.refl _ _⟩
  have he : (bsB (unsign l)).toList.isEmpty = false := by
    rw [bs_toList]
    cases hu : unsign l with
    | nil => exact absurd hu h0
    | cons => rfl
  by_cases h9 : 9 < (unsign l).length
  · have HE : Hid (cv = .tuple #[.int .i64 0, .bool false]) := Lib.hid (by rw [HV.out, hic, decide_eq_false (show ¬ (unsign l).length ≤ 9 by omega)]; simp)
    have h9i : (9 : Int) < (bsB (unsign l)).size := by rw [hsz]; omega
    clear HV hic h0 hl h9 hsz
    generalize bsB (unsign l) = u at *
    generalize bsB l = t at *
    go_enter Tryd.func18, Tryd.ntmps18
    go_wp2_with (go_at_call 37; (with_reducible refine (HT.out).mono ?_); rintro e w1 ⟨rfl, rfl⟩)
    go_ret2
    exact ⟨by rw [HE.out]; rfl, Below.refl _ _⟩
  have h9i : ((bsB (unsign l)).size : Int) ≤ 9 := by rw [hsz]; omega
  cases ha : (unsign l).all isDig with
  | false =>
    have HE : Hid (cv = .tuple #[.int .i64 0, .bool false]) := Lib.hid (by rw [HV.out, hic, ha]; simp)
    rw [ha] at HCF
    clear HV hic h0 hl h9 hsz ha
    generalize bsB (unsign l) = u at *
    generalize bsB l = t at *
    go_enter Tryd.func18, Tryd.ntmps18
    go_wp2_with (first
      | (go_at_call 37; (with_reducible refine (HT.out).mono ?_); rintro e w1 ⟨rfl, rfl⟩)
      | (go_at_call 38; (with_reducible refine (HCF.out).mono ?_); rintro e w2 ⟨rfl, hb⟩; have HB := Lib.hid hb; clear hb))
    go_ret2
    exact ⟨by rw [HE.out]; rfl, HB.out⟩
  | true =>
    have hcd : isCode l = true := by rw [hic, ha, decide_eq_true (show (unsign l).length ≤ 9 by omega), bne_iff_ne.2 h0]; rfl
    have HE : Hid (cv = .tuple #[.int .i64 (codeZ l), .bool true]) := Lib.hid (by rw [HV.out, hcd]; rfl)
    have HA : Hid (∀ W, Calls Tryd.prog 40 #[.string (bsB l)] W fun e w' => e = .returned (.tuple #[.int .i64 (codeZ l), .nilIface]) ∧ Below W.heap.size W w') := Lib.hid fun W =>
      (Tryd.strconv_Atoi_ok (bsB l) (by rw [bsB_size]; omega) (codeZ l) (atoi_code l hcd) W).mono fun e w' ⟨h1, h2⟩ => ⟨h1, by
        rcases h2 with rfl | ⟨t, rfl⟩
        · exact Below.refl _ _
        · exact bytesB t⟩
    rw [ha] at HCF
    clear HV hic h0 hl h9 hsz ha hcd
    generalize codeZ l = z at *
    generalize bsB (unsign l) = u at *
    generalize bsB l = t at *
    go_enter Tryd.func18, Tryd.ntmps18
    go_wp2_with (first
      | (go_at_call 37; (with_reducible refine (HT.out).mono ?_); rintro e w1 ⟨rfl, rfl⟩)
      | (go_at_call 38; (with_reducible refine (HCF.out).mono ?_); rintro e w2 ⟨rfl, hb⟩; have HB := Lib.hid hb; clear hb)
      | (go_at_call 40; (with_reducible refine (HA.out _).mono ?_); rintro e w3 ⟨rfl, hb⟩; have HB3 := Lib.hid (bel0 HB.out hb); clear hb))
    go_region
    simp only [Exit.then]
    go_wp2
    go_ret2
    exact ⟨by rw [HE.out]; rfl, HB3.out.drew⟩
end Go.Proofs.YtkkhlmilcdlfoaaDoor
