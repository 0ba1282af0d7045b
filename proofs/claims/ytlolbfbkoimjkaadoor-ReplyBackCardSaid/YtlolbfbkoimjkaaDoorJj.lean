/- The walk of the document's Read. -/
import Derived.Test.YtlolbfbkoimjkaaDoorJi
namespace Go.Proofs.YtlolbfbkoimjkaaDoor
open Go.RowKit

def NonePost (w : World) (e : Ending) (w' : World) : Prop := e = .returned (.tuple #[.int .u8 0, .slice none 0 0, .bool false]) ∧ Below w.heap.size w w'
def SomePost (z : UInt8) (mid : List UInt8) (w : World) (e : Ending) (w' : World) : Prop := ∃ A c, e = .returned (.tuple #[.int .u8 z.toNat, .slice A (HZ mid).length c, .bool true]) ∧ RG w' w'.heap.size A (HZ mid) ∧ Below w.heap.size w w'
def noneV : Value := .tuple #[.int .u8 0, .slice none 0 0, .bool false]
set_option maxRecDepth 100000 in
set_option maxHeartbeats 4000000 in
theorem ref_short (S : ByteArray) (h : S.size < 3) (w : World) : Calls Tryd.prog 16 #[.string S] w (NonePost w) := by
  have hd : decide ((S.size : Int) < 3) = true := decide_eq_true (by omega)
  clear h
  unfold NonePost
  go_enter Tryd.func16, Tryd.ntmps16
  go_wp2
  exact bodyPost_ret (v := .tuple #[.int .u8 0, .slice none 0 0, .bool false]) (by simp [results, Tryd.results16, go_sem]) rfl ⟨rfl, Below.refl _ _⟩
set_option maxRecDepth 100000 in
set_option maxHeartbeats 4000000 in
theorem ref_first (a b c : UInt8) (t : List UInt8) (h : a ≠ 27) (w : World) : Calls Tryd.prog 16 #[.string (bsB (a :: b :: c :: t))] w (NonePost w) := by
  have hd : decide (((bsB (a :: b :: c :: t)).size : Int) < 3) = false := decide_eq_false (by rw [bsB_size]; simp; omega)
  have i0 : ∀ W, (Instr.index 9 (.string (bsB (a :: b :: c :: t))) (.int .i64 0)).run Tryd.prog W = .ok (.int .u8 a.toNat) W := idx_bs (a :: b :: c :: t) 0 a rfl
  have hn : ((a.toNat : Int) != 27) = true := by
    have : a.toNat ≠ 27 := fun e => h (UInt8.toNat_inj.1 e)
    simp
    omega
  clear h
  generalize bsB (a :: b :: c :: t) = S at *
  unfold NonePost
  go_enter Tryd.func16, Tryd.ntmps16
  go_wp2
  exact bodyPost_ret (v := .tuple #[.int .u8 0, .slice none 0 0, .bool false]) (by simp [results, Tryd.results16, go_sem]) rfl ⟨rfl, Below.refl _ _⟩
set_option maxRecDepth 100000 in
set_option maxHeartbeats 4000000 in
theorem ref_second (b c : UInt8) (t : List UInt8) (h : b ≠ 91) (w : World) : Calls Tryd.prog 16 #[.string (bsB (27 :: b :: c :: t))] w (NonePost w) := by
  have hd : decide (((bsB (27 :: b :: c :: t)).size : Int) < 3) = false := decide_eq_false (by rw [bsB_size]; simp; omega)
  have i0 : ∀ W, (Instr.index 9 (.string (bsB (27 :: b :: c :: t))) (.int .i64 0)).run Tryd.prog W = .ok (.int .u8 27) W := idx_bs (27 :: b :: c :: t) 0 27 rfl
  have i1 : ∀ W, (Instr.index 9 (.string (bsB (27 :: b :: c :: t))) (.int .i64 1)).run Tryd.prog W = .ok (.int .u8 b.toNat) W := idx_bs (27 :: b :: c :: t) 1 b rfl
  have hn : ((b.toNat : Int) != 91) = true := by
    have : b.toNat ≠ 91 := fun e => h (UInt8.toNat_inj.1 e)
    simp
    omega
  clear h
  generalize bsB (27 :: b :: c :: t) = S at *
  unfold NonePost
  go_enter Tryd.func16, Tryd.ntmps16
  go_wp2
  exact bodyPost_ret (v := .tuple #[.int .u8 0, .slice none 0 0, .bool false]) (by simp [results, Tryd.results16, go_sem]) rfl ⟨rfl, Below.refl _ _⟩
/-- A text of a control sequence, as the document reads it. -/
structure SeqB (S Q : ByteArray) (k : Nat) (z : UInt8) : Prop where
  three : decide ((S.size : Int) < 3) = false
  wrap : IntKind.i64.wrap ((S.size : Int) - 1) = k
  size : (S.size : Int) = k + 1
  four : decide ((k : Int) + 1 < 3) = false
  le : (k : Int) ≤ S.size
  two : (2 : Int) ≤ k
  up : k ≤ 2000
  i0 : ∀ W, (Instr.index 9 (.string S) (.int .i64 0)).run Tryd.prog W = .ok (.int .u8 27) W
  i1 : ∀ W, (Instr.index 9 (.string S) (.int .i64 1)).run Tryd.prog W = .ok (.int .u8 91) W
  iz : ∀ W, (Instr.index 9 (.string S) (.int .i64 k)).run Tryd.prog W = .ok (.int .u8 z.toNat) W
  cut : S.extract 2 k = Q
theorem seq_bs (q : List UInt8) (z : UInt8) (hq : q.length ≤ 1000) : SeqB (bsB (27 :: 91 :: (q ++ [z]))) (bsB q) (q.length + 2) z := by
  have hs : (bsB (27 :: 91 :: (q ++ [z]))).size = q.length + 3 := by rw [bsB_size]; simp
  refine ⟨decide_eq_false (by omega), by rw [hs, IntKind.wrap_i64]; omega, by omega, decide_eq_false (by omega), by omega, by omega, by omega, idx_bs (27 :: 91 :: (q ++ [z])) 0 27 rfl, idx_bs (27 :: 91 :: (q ++ [z])) 1 91 rfl, idx_bs (27 :: 91 :: (q ++ [z])) (q.length + 2) z (by simp), ?_⟩
  rw [bs_extract]
  simp
theorem last_facts (z : UInt8) : (isLastB z = true → decide ((z.toNat : Int) < 64) = false ∧ decide ((126 : Int) < z.toNat) = false ∧ decide ((z.toNat : Int) > 126) = false) := by
  intro h
  unfold isLastB at h
  simp only [Bool.and_eq_true, decide_eq_true_eq] at h
  exact ⟨decide_eq_false (by omega), decide_eq_false (by omega), decide_eq_false (by omega)⟩
set_option maxRecDepth 100000 in
set_option maxHeartbeats 4000000 in
theorem ref_none_low (z : UInt8) (hz : z.toNat < 64) (w : World) : Calls Tryd.prog 16 #[.string (bsB (27 :: 91 :: ([] ++ [z])))] w (NonePost w) := by
  obtain ⟨h3, hw, hsz, h4, hle, h2, hup, i0, i1, iz, hcut⟩ := seq_bs [] z (by simp)
  have d0 : decide ((z.toNat : Int) < 64) = true := decide_eq_true (by omega)
  clear hz
  generalize bsB (27 :: 91 :: ([] ++ [z])) = S at *
  generalize hk : [].length + 2 = k at *
  clear hk
  unfold NonePost
  go_enter Tryd.func16, Tryd.ntmps16
  go_wp2
  exact bodyPost_ret (v := .tuple #[.int .u8 0, .slice none 0 0, .bool false]) (by simp [results, Tryd.results16, go_sem]) rfl ⟨rfl, Below.refl _ _⟩
set_option maxRecDepth 100000 in
set_option maxHeartbeats 4000000 in
theorem ref_none_high (z : UInt8) (hz : 126 < z.toNat) (w : World) : Calls Tryd.prog 16 #[.string (bsB (27 :: 91 :: ([] ++ [z])))] w (NonePost w) := by
  obtain ⟨h3, hw, hsz, h4, hle, h2, hup, i0, i1, iz, hcut⟩ := seq_bs [] z (by simp)
  have d0 : decide ((z.toNat : Int) < 64) = false := decide_eq_false (by omega)
  have d1 : decide ((126 : Int) < z.toNat) = true := decide_eq_true (by omega)
  have d2 : decide ((z.toNat : Int) > 126) = true := decide_eq_true (by omega)
  clear hz
  generalize bsB (27 :: 91 :: ([] ++ [z])) = S at *
  generalize hk : [].length + 2 = k at *
  clear hk
  unfold NonePost
  go_enter Tryd.func16, Tryd.ntmps16
  go_wp2
  exact bodyPost_ret (v := .tuple #[.int .u8 0, .slice none 0 0, .bool false]) (by simp [results, Tryd.results16, go_sem]) rfl ⟨rfl, Below.refl _ _⟩
set_option maxRecDepth 100000 in
set_option maxHeartbeats 4000000 in
theorem ref_none_ok (z : UInt8) (hz : isLastB z = true) (hh : headL [] = true) (w : World) : Calls Tryd.prog 16 #[.string (bsB (27 :: 91 :: ([] ++ [z])))] w (SomePost z [] w) := by
  obtain ⟨h3, hw, hsz, h4, hle, h2, hup, i0, i1, iz, hcut⟩ := seq_bs [] z (by simp)
  obtain ⟨d0, d1, d2⟩ := last_facts z hz
  have hq0 : (bsB []).size = 0 := by rw [bsB_size]; rfl
  have HPA : Hid (Calls Tryd.prog 33 #[.string (bsB [])] w fun e w' => ∃ A cp, e = .returned (.tuple #[.slice A (HZ []).length cp, .bool true]) ∧ RG w' w'.heap.size A (HZ []) ∧ Below w.heap.size w w') := Lib.hid ((refParse_any (bsB []) w (by rw [bsB_size]; simp)).mono fun e w' h => by
    rcases h with ⟨h, _⟩ | ⟨_, h⟩
    · rw [bs_list, hh] at h; simp at h
    · exact h)
  have hl : decide ((((bsB [])).size : Int) > 256) = false := decide_eq_false (by rw [bsB_size]; simp)
  clear hz hh
  generalize bsB (27 :: 91 :: ([] ++ [z])) = S at *
  generalize bsB [] = Q at *
  generalize hk : [].length + 2 = k at *
  clear hk
  unfold SomePost
  go_enter Tryd.func16, Tryd.ntmps16
  go_wp2_with (go_at_call 33; (with_reducible refine (HPA.out).mono ?_); rintro e w1 ⟨A1, c1, rfl, hr, hb⟩; have HB := Lib.hid hb; have HR := Lib.hid hr; clear hb hr)
  exact bodyPost_ret (v := .tuple #[.int .u8 z.toNat, .slice A1 (HZ []).length c1, .bool true]) (by simp [results, Tryd.results16, go_sem]) rfl ⟨A1, c1, rfl, HR.out, HB.out⟩
set_option maxRecDepth 100000 in
set_option maxHeartbeats 4000000 in
theorem ref_pre_head (z : UInt8) (c : UInt8) (mid : List UInt8) (hq : mid.length ≤ 900) (hc : isPreB c = true) (hz : isLastB z = true) (hh : headL mid = false) (w : World) : Calls Tryd.prog 16 #[.string (bsB (27 :: 91 :: ((c :: mid) ++ [z])))] w (NonePost w) := by
  obtain ⟨h3, hw, hsz, h4, hle, h2, hup, i0, i1, iz, hcut⟩ := seq_bs (c :: mid) z (by simp; omega)
  obtain ⟨d0, d1, d2⟩ := last_facts z hz
  have hqs : (0 : Int) < (bsB (c :: mid)).size := by rw [bsB_size, List.length_cons]; omega
  have hqd : decide (((bsB (c :: mid)).size : Int) > 0) = true := decide_eq_true hqs
  have j0 := idx0_bs c mid
  unfold isPreB at hc
  simp only [Bool.and_eq_true, decide_eq_true_eq] at hc
  have c0 : decide ((c.toNat : Int) ≥ 60) = true := decide_eq_true (by omega)
  have c1 : decide ((60 : Int) ≤ c.toNat) = true := decide_eq_true (by omega)
  have c2 : decide ((c.toNat : Int) ≤ 63) = true := decide_eq_true (by omega)
  have hx := ext_one c mid
  have hx1 : (1 : Int) ≤ (bsB (c :: mid)).size := by rw [bsB_size]; simp; omega
  have HPA : Hid (Calls Tryd.prog 33 #[.string (bsB mid)] w fun e w' => e = .returned (.tuple #[.slice none 0 0, .bool false]) ∧ Below w.heap.size w w') := Lib.hid ((refParse_any (bsB mid) w (by rw [bsB_size]; omega)).mono fun e w' h => by
    rcases h with ⟨_, h1, h2⟩ | ⟨h, _⟩
    · exact ⟨h1, h2⟩
    · rw [bs_list, hh] at h; simp at h)
  clear hz hh hc
  generalize bsB (27 :: 91 :: ((c :: mid) ++ [z])) = S at *
  generalize bsB (c :: mid) = Q at *
  generalize bsB mid = M at *
  generalize hk : (c :: mid).length + 2 = k at *
  clear hk
  unfold NonePost
  go_enter Tryd.func16, Tryd.ntmps16
  go_wp2_with (go_at_call 33; (with_reducible refine (HPA.out).mono ?_); rintro e w1 ⟨rfl, hb⟩; have HB := Lib.hid hb; clear hb)
  exact bodyPost_ret (v := .tuple #[.int .u8 0, .slice none 0 0, .bool false]) (by simp [results, Tryd.results16, go_sem]) rfl ⟨rfl, HB.out⟩
set_option maxRecDepth 100000 in
set_option maxHeartbeats 4000000 in
theorem ref_pre_long (z : UInt8) (c : UInt8) (mid : List UInt8) (hq : mid.length ≤ 900) (hc : isPreB c = true) (hz : isLastB z = true) (hh : headL mid = true) (hm : 256 < mid.length) (w : World) : Calls Tryd.prog 16 #[.string (bsB (27 :: 91 :: ((c :: mid) ++ [z])))] w (NonePost w) := by
  obtain ⟨h3, hw, hsz, h4, hle, h2, hup, i0, i1, iz, hcut⟩ := seq_bs (c :: mid) z (by simp; omega)
  obtain ⟨d0, d1, d2⟩ := last_facts z hz
  have hqs : (0 : Int) < (bsB (c :: mid)).size := by rw [bsB_size, List.length_cons]; omega
  have hqd : decide (((bsB (c :: mid)).size : Int) > 0) = true := decide_eq_true hqs
  have j0 := idx0_bs c mid
  unfold isPreB at hc
  simp only [Bool.and_eq_true, decide_eq_true_eq] at hc
  have c0 : decide ((c.toNat : Int) ≥ 60) = true := decide_eq_true (by omega)
  have c1 : decide ((60 : Int) ≤ c.toNat) = true := decide_eq_true (by omega)
  have c2 : decide ((c.toNat : Int) ≤ 63) = true := decide_eq_true (by omega)
  have hx := ext_one c mid
  have hx1 : (1 : Int) ≤ (bsB (c :: mid)).size := by rw [bsB_size]; simp; omega
  have HPA : Hid (Calls Tryd.prog 33 #[.string (bsB mid)] w fun e w' => ∃ A cp, e = .returned (.tuple #[.slice A (HZ mid).length cp, .bool true]) ∧ RG w' w'.heap.size A (HZ mid) ∧ Below w.heap.size w w') := Lib.hid ((refParse_any (bsB mid) w (by rw [bsB_size]; omega)).mono fun e w' h => by
    rcases h with ⟨h, _⟩ | ⟨_, h⟩
    · rw [bs_list, hh] at h; simp at h
    · exact h)
  have hl : decide ((((bsB mid)).size : Int) > 256) = true := decide_eq_true (by rw [bsB_size]; omega)
  clear hz hh hm hc
  generalize bsB (27 :: 91 :: ((c :: mid) ++ [z])) = S at *
  generalize bsB (c :: mid) = Q at *
  generalize bsB mid = M at *
  generalize hk : (c :: mid).length + 2 = k at *
  clear hk
  unfold NonePost
  go_enter Tryd.func16, Tryd.ntmps16
  go_wp2_with (go_at_call 33; (with_reducible refine (HPA.out).mono ?_); rintro e w1 ⟨A1, c1, rfl, hr, hb⟩; have HB := Lib.hid hb; have HR := Lib.hid hr; clear hb hr)
  exact bodyPost_ret (v := .tuple #[.int .u8 0, .slice none 0 0, .bool false]) (by simp [results, Tryd.results16, go_sem]) rfl ⟨rfl, HB.out⟩
set_option maxRecDepth 100000 in
set_option maxHeartbeats 4000000 in
theorem ref_pre_ok (z : UInt8) (c : UInt8) (mid : List UInt8) (hq : mid.length ≤ 900) (hc : isPreB c = true) (hz : isLastB z = true) (hh : headL mid = true) (hm : mid.length ≤ 256) (w : World) : Calls Tryd.prog 16 #[.string (bsB (27 :: 91 :: ((c :: mid) ++ [z])))] w (SomePost z mid w) := by
  obtain ⟨h3, hw, hsz, h4, hle, h2, hup, i0, i1, iz, hcut⟩ := seq_bs (c :: mid) z (by simp; omega)
  obtain ⟨d0, d1, d2⟩ := last_facts z hz
  have hqs : (0 : Int) < (bsB (c :: mid)).size := by rw [bsB_size, List.length_cons]; omega
  have hqd : decide (((bsB (c :: mid)).size : Int) > 0) = true := decide_eq_true hqs
  have j0 := idx0_bs c mid
  unfold isPreB at hc
  simp only [Bool.and_eq_true, decide_eq_true_eq] at hc
  have c0 : decide ((c.toNat : Int) ≥ 60) = true := decide_eq_true (by omega)
  have c1 : decide ((60 : Int) ≤ c.toNat) = true := decide_eq_true (by omega)
  have c2 : decide ((c.toNat : Int) ≤ 63) = true := decide_eq_true (by omega)
  have hx := ext_one c mid
  have hx1 : (1 : Int) ≤ (bsB (c :: mid)).size := by rw [bsB_size]; simp; omega
  have HPA : Hid (Calls Tryd.prog 33 #[.string (bsB mid)] w fun e w' => ∃ A cp, e = .returned (.tuple #[.slice A (HZ mid).length cp, .bool true]) ∧ RG w' w'.heap.size A (HZ mid) ∧ Below w.heap.size w w') := Lib.hid ((refParse_any (bsB mid) w (by rw [bsB_size]; omega)).mono fun e w' h => by
    rcases h with ⟨h, _⟩ | ⟨_, h⟩
    · rw [bs_list, hh] at h; simp at h
    · exact h)
  have hl : decide ((((bsB mid)).size : Int) > 256) = false := decide_eq_false (by rw [bsB_size]; omega)
  clear hz hh hm hc
  generalize bsB (27 :: 91 :: ((c :: mid) ++ [z])) = S at *
  generalize bsB (c :: mid) = Q at *
  generalize bsB mid = M at *
  generalize hk : (c :: mid).length + 2 = k at *
  clear hk
  unfold SomePost
  go_enter Tryd.func16, Tryd.ntmps16
  go_wp2_with (go_at_call 33; (with_reducible refine (HPA.out).mono ?_); rintro e w1 ⟨A1, c1, rfl, hr, hb⟩; have HB := Lib.hid hb; have HR := Lib.hid hr; clear hb hr)
  exact bodyPost_ret (v := .tuple #[.int .u8 z.toNat, .slice A1 (HZ mid).length c1, .bool true]) (by simp [results, Tryd.results16, go_sem]) rfl ⟨A1, c1, rfl, HR.out, HB.out⟩
set_option maxRecDepth 100000 in
set_option maxHeartbeats 4000000 in
theorem ref_bare_low (z : UInt8) (c : UInt8) (r : List UInt8) (hq : r.length ≤ 900) (hz : z.toNat < 64) (w : World) : Calls Tryd.prog 16 #[.string (bsB (27 :: 91 :: ((c :: r) ++ [z])))] w (NonePost w) := by
  obtain ⟨h3, hw, hsz, h4, hle, h2, hup, i0, i1, iz, hcut⟩ := seq_bs (c :: r) z (by simp; omega)
  have d0 : decide ((z.toNat : Int) < 64) = true := decide_eq_true (by omega)
  clear hz
  generalize bsB (27 :: 91 :: ((c :: r) ++ [z])) = S at *
  generalize hk : (c :: r).length + 2 = k at *
  clear hk
  unfold NonePost
  go_enter Tryd.func16, Tryd.ntmps16
  go_wp2
  exact bodyPost_ret (v := .tuple #[.int .u8 0, .slice none 0 0, .bool false]) (by simp [results, Tryd.results16, go_sem]) rfl ⟨rfl, Below.refl _ _⟩
set_option maxRecDepth 100000 in
set_option maxHeartbeats 4000000 in
theorem ref_bare_high (z : UInt8) (c : UInt8) (r : List UInt8) (hq : r.length ≤ 900) (hz : 126 < z.toNat) (w : World) : Calls Tryd.prog 16 #[.string (bsB (27 :: 91 :: ((c :: r) ++ [z])))] w (NonePost w) := by
  obtain ⟨h3, hw, hsz, h4, hle, h2, hup, i0, i1, iz, hcut⟩ := seq_bs (c :: r) z (by simp; omega)
  have d0 : decide ((z.toNat : Int) < 64) = false := decide_eq_false (by omega)
  have d1 : decide ((126 : Int) < z.toNat) = true := decide_eq_true (by omega)
  have d2 : decide ((z.toNat : Int) > 126) = true := decide_eq_true (by omega)
  clear hz
  generalize bsB (27 :: 91 :: ((c :: r) ++ [z])) = S at *
  generalize hk : (c :: r).length + 2 = k at *
  clear hk
  unfold NonePost
  go_enter Tryd.func16, Tryd.ntmps16
  go_wp2
  exact bodyPost_ret (v := .tuple #[.int .u8 0, .slice none 0 0, .bool false]) (by simp [results, Tryd.results16, go_sem]) rfl ⟨rfl, Below.refl _ _⟩
set_option maxRecDepth 100000 in
set_option maxHeartbeats 4000000 in
theorem ref_bare_head (z : UInt8) (c : UInt8) (r : List UInt8) (hq : r.length ≤ 900) (hc : isPreB c = false) (hz : isLastB z = true) (hh : headL (c :: r) = false) (w : World) : Calls Tryd.prog 16 #[.string (bsB (27 :: 91 :: ((c :: r) ++ [z])))] w (NonePost w) := by
  obtain ⟨h3, hw, hsz, h4, hle, h2, hup, i0, i1, iz, hcut⟩ := seq_bs (c :: r) z (by simp; omega)
  obtain ⟨d0, d1, d2⟩ := last_facts z hz
  have hqs : (0 : Int) < (bsB (c :: r)).size := by rw [bsB_size, List.length_cons]; omega
  have hqd : decide (((bsB (c :: r)).size : Int) > 0) = true := decide_eq_true hqs
  have j0 := idx0_bs c r
  have hc60 : 60 ≤ c.toNat → 63 < c.toNat := fun h => by
    unfold isPreB at hc
    rw [decide_eq_true h, Bool.true_and] at hc
    have := of_decide_eq_false hc
    omega
  have HPA : Hid (Calls Tryd.prog 33 #[.string (bsB (c :: r))] w fun e w' => e = .returned (.tuple #[.slice none 0 0, .bool false]) ∧ Below w.heap.size w w') := Lib.hid ((refParse_any (bsB (c :: r)) w (by rw [bsB_size, List.length_cons]; omega)).mono fun e w' h => by
    rcases h with ⟨_, h1, h2⟩ | ⟨h, _⟩
    · exact ⟨h1, h2⟩
    · rw [bs_list, hh] at h; simp at h)
  clear hz hh
  generalize bsB (27 :: 91 :: ((c :: r) ++ [z])) = S at *
  generalize bsB (c :: r) = Q at *
  generalize hk : (c :: r).length + 2 = k at *
  clear hk
  unfold NonePost
  by_cases h60 : 60 ≤ c.toNat
  · have c0 : decide ((c.toNat : Int) ≥ 60) = true := decide_eq_true (by omega)
    have c1 : decide ((60 : Int) ≤ c.toNat) = true := decide_eq_true (by omega)
    have h63 := hc60 h60
    have c2 : decide ((c.toNat : Int) ≤ 63) = false := decide_eq_false (by omega)
    clear h60 h63 hc60 hc
    go_enter Tryd.func16, Tryd.ntmps16
    go_wp2_with (go_at_call 33; (with_reducible refine (HPA.out).mono ?_); rintro e w1 ⟨rfl, hb⟩; have HB := Lib.hid hb; clear hb)
    exact bodyPost_ret (v := .tuple #[.int .u8 0, .slice none 0 0, .bool false]) (by simp [results, Tryd.results16, go_sem]) rfl ⟨rfl, HB.out⟩
  · have c0 : decide ((c.toNat : Int) ≥ 60) = false := decide_eq_false (by omega)
    have c1 : decide ((60 : Int) ≤ c.toNat) = false := decide_eq_false (by omega)
    clear h60 hc60 hc
    go_enter Tryd.func16, Tryd.ntmps16
    go_wp2_with (go_at_call 33; (with_reducible refine (HPA.out).mono ?_); rintro e w1 ⟨rfl, hb⟩; have HB := Lib.hid hb; clear hb)
    exact bodyPost_ret (v := .tuple #[.int .u8 0, .slice none 0 0, .bool false]) (by simp [results, Tryd.results16, go_sem]) rfl ⟨rfl, HB.out⟩
set_option maxRecDepth 100000 in
set_option maxHeartbeats 4000000 in
theorem ref_bare_long (z : UInt8) (c : UInt8) (r : List UInt8) (hq : r.length ≤ 900) (hc : isPreB c = false) (hz : isLastB z = true) (hh : headL (c :: r) = true) (hm : 256 < (c :: r).length) (w : World) : Calls Tryd.prog 16 #[.string (bsB (27 :: 91 :: ((c :: r) ++ [z])))] w (NonePost w) := by
  obtain ⟨h3, hw, hsz, h4, hle, h2, hup, i0, i1, iz, hcut⟩ := seq_bs (c :: r) z (by simp; omega)
  obtain ⟨d0, d1, d2⟩ := last_facts z hz
  have hqs : (0 : Int) < (bsB (c :: r)).size := by rw [bsB_size, List.length_cons]; omega
  have hqd : decide (((bsB (c :: r)).size : Int) > 0) = true := decide_eq_true hqs
  have j0 := idx0_bs c r
  have hc60 : 60 ≤ c.toNat → 63 < c.toNat := fun h => by
    unfold isPreB at hc
    rw [decide_eq_true h, Bool.true_and] at hc
    have := of_decide_eq_false hc
    omega
  have HPA : Hid (Calls Tryd.prog 33 #[.string (bsB (c :: r))] w fun e w' => ∃ A cp, e = .returned (.tuple #[.slice A (HZ (c :: r)).length cp, .bool true]) ∧ RG w' w'.heap.size A (HZ (c :: r)) ∧ Below w.heap.size w w') := Lib.hid ((refParse_any (bsB (c :: r)) w (by rw [bsB_size, List.length_cons]; omega)).mono fun e w' h => by
    rcases h with ⟨h, _⟩ | ⟨_, h⟩
    · rw [bs_list, hh] at h; simp at h
    · exact h)
  have hl : decide ((((bsB (c :: r))).size : Int) > 256) = true := decide_eq_true (by rw [bsB_size]; omega)
  clear hz hh hm
  generalize bsB (27 :: 91 :: ((c :: r) ++ [z])) = S at *
  generalize bsB (c :: r) = Q at *
  generalize hk : (c :: r).length + 2 = k at *
  clear hk
  unfold NonePost
  by_cases h60 : 60 ≤ c.toNat
  · have c0 : decide ((c.toNat : Int) ≥ 60) = true := decide_eq_true (by omega)
    have c1 : decide ((60 : Int) ≤ c.toNat) = true := decide_eq_true (by omega)
    have h63 := hc60 h60
    have c2 : decide ((c.toNat : Int) ≤ 63) = false := decide_eq_false (by omega)
    clear h60 h63 hc60 hc
    go_enter Tryd.func16, Tryd.ntmps16
    go_wp2_with (go_at_call 33; (with_reducible refine (HPA.out).mono ?_); rintro e w1 ⟨A1, c1, rfl, hr, hb⟩; have HB := Lib.hid hb; have HR := Lib.hid hr; clear hb hr)
    exact bodyPost_ret (v := .tuple #[.int .u8 0, .slice none 0 0, .bool false]) (by simp [results, Tryd.results16, go_sem]) rfl ⟨rfl, HB.out⟩
  · have c0 : decide ((c.toNat : Int) ≥ 60) = false := decide_eq_false (by omega)
    have c1 : decide ((60 : Int) ≤ c.toNat) = false := decide_eq_false (by omega)
    clear h60 hc60 hc
    go_enter Tryd.func16, Tryd.ntmps16
    go_wp2_with (go_at_call 33; (with_reducible refine (HPA.out).mono ?_); rintro e w1 ⟨A1, c1, rfl, hr, hb⟩; have HB := Lib.hid hb; have HR := Lib.hid hr; clear hb hr)
    exact bodyPost_ret (v := .tuple #[.int .u8 0, .slice none 0 0, .bool false]) (by simp [results, Tryd.results16, go_sem]) rfl ⟨rfl, HB.out⟩
set_option maxRecDepth 100000 in
set_option maxHeartbeats 4000000 in
theorem ref_bare_ok (z : UInt8) (c : UInt8) (r : List UInt8) (hq : r.length ≤ 900) (hc : isPreB c = false) (hz : isLastB z = true) (hh : headL (c :: r) = true) (hm : (c :: r).length ≤ 256) (w : World) : Calls Tryd.prog 16 #[.string (bsB (27 :: 91 :: ((c :: r) ++ [z])))] w (SomePost z (c :: r) w) := by
  obtain ⟨h3, hw, hsz, h4, hle, h2, hup, i0, i1, iz, hcut⟩ := seq_bs (c :: r) z (by simp; omega)
  obtain ⟨d0, d1, d2⟩ := last_facts z hz
  have hqs : (0 : Int) < (bsB (c :: r)).size := by rw [bsB_size, List.length_cons]; omega
  have hqd : decide (((bsB (c :: r)).size : Int) > 0) = true := decide_eq_true hqs
  have j0 := idx0_bs c r
  have hc60 : 60 ≤ c.toNat → 63 < c.toNat := fun h => by
    unfold isPreB at hc
    rw [decide_eq_true h, Bool.true_and] at hc
    have := of_decide_eq_false hc
    omega
  have HPA : Hid (Calls Tryd.prog 33 #[.string (bsB (c :: r))] w fun e w' => ∃ A cp, e = .returned (.tuple #[.slice A (HZ (c :: r)).length cp, .bool true]) ∧ RG w' w'.heap.size A (HZ (c :: r)) ∧ Below w.heap.size w w') := Lib.hid ((refParse_any (bsB (c :: r)) w (by rw [bsB_size, List.length_cons]; omega)).mono fun e w' h => by
    rcases h with ⟨h, _⟩ | ⟨_, h⟩
    · rw [bs_list, hh] at h; simp at h
    · exact h)
  have hl : decide ((((bsB (c :: r))).size : Int) > 256) = false := decide_eq_false (by rw [bsB_size]; omega)
  clear hz hh hm
  generalize bsB (27 :: 91 :: ((c :: r) ++ [z])) = S at *
  generalize bsB (c :: r) = Q at *
  generalize hk : (c :: r).length + 2 = k at *
  clear hk
  unfold SomePost
  by_cases h60 : 60 ≤ c.toNat
  · have c0 : decide ((c.toNat : Int) ≥ 60) = true := decide_eq_true (by omega)
    have c1 : decide ((60 : Int) ≤ c.toNat) = true := decide_eq_true (by omega)
    have h63 := hc60 h60
    have c2 : decide ((c.toNat : Int) ≤ 63) = false := decide_eq_false (by omega)
    clear h60 h63 hc60 hc
    go_enter Tryd.func16, Tryd.ntmps16
    go_wp2_with (go_at_call 33; (with_reducible refine (HPA.out).mono ?_); rintro e w1 ⟨A1, c1, rfl, hr, hb⟩; have HB := Lib.hid hb; have HR := Lib.hid hr; clear hb hr)
    exact bodyPost_ret (v := .tuple #[.int .u8 z.toNat, .slice A1 (HZ (c :: r)).length c1, .bool true]) (by simp [results, Tryd.results16, go_sem]) rfl ⟨A1, c1, rfl, HR.out, HB.out⟩
  · have c0 : decide ((c.toNat : Int) ≥ 60) = false := decide_eq_false (by omega)
    have c1 : decide ((60 : Int) ≤ c.toNat) = false := decide_eq_false (by omega)
    clear h60 hc60 hc
    go_enter Tryd.func16, Tryd.ntmps16
    go_wp2_with (go_at_call 33; (with_reducible refine (HPA.out).mono ?_); rintro e w1 ⟨A1, c1, rfl, hr, hb⟩; have HB := Lib.hid hb; have HR := Lib.hid hr; clear hb hr)
    exact bodyPost_ret (v := .tuple #[.int .u8 z.toNat, .slice A1 (HZ (c :: r)).length c1, .bool true]) (by simp [results, Tryd.results16, go_sem]) rfl ⟨A1, c1, rfl, HR.out, HB.out⟩
end Go.Proofs.YtlolbfbkoimjkaaDoor
