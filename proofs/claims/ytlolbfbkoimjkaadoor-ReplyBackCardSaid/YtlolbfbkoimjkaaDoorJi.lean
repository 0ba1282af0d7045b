/- The walk of Read. -/
import Derived.Test.YtlolbfbkoimjkaaDoorJh
namespace Go.Proofs.YtlolbfbkoimjkaaDoor
open Go.RowKit

theorem idx_bs (l : List UInt8) (k : Nat) (z : UInt8) (h : l[k]? = some z) (W : World) : (Instr.index 9 (.string (bsB l)) (.int .i64 k)).run Tryd.prog W = .ok (.int .u8 z.toNat) W := by
  obtain ⟨hk, e⟩ := List.getElem?_eq_some_iff.1 h
  rw [run_index_string W 9 (bsB l) .i64 k Tryd.underlying9, dif_pos (by rw [bsB_size]; omega)]
  subst e
  rfl
/-- A last byte, behind others. -/
structure TailB (B M : ByteArray) (m : Nat) (z : UInt8) : Prop where
  size : (B.size : Int) = m + 1
  idx : ∀ W, (Instr.index 9 (.string B) (.int .i64 m)).run Tryd.prog W = .ok (.int .u8 z.toNat) W
  cut : B.extract 0 m = M
theorem tail_bs (mid : List UInt8) (z : UInt8) : TailB (bsB (mid ++ [z])) (bsB mid) mid.length z :=
  ⟨by rw [bsB_size]; simp, idx_bs _ _ _ (by simp), by rw [bs_extract]; simp⟩
theorem idx0_bs (c : UInt8) (l : List UInt8) (W : World) : (Instr.index 9 (.string (bsB (c :: l))) (.int .i64 0)).run Tryd.prog W = .ok (.int .u8 c.toNat) W := idx_bs (c :: l) 0 c rfl W
theorem ext_one (c : UInt8) (l : List UInt8) : (bsB (c :: l)).extract 1 (bsB (c :: l)).size = bsB l := by
  rw [bs_extract, bsB_size]
  simp
theorem bs_list (l : List UInt8) : (bsB l).data.toList = l := rfl
set_option maxRecDepth 100000 in
set_option maxHeartbeats 4000000 in
theorem read_bare_long (mid : List UInt8) (z : UInt8) (c : UInt8) (l : List UInt8) (hcl : mid ++ [z] = c :: l) (hc : isPreB c = false) (hm : 256 < mid.length ∧ mid.length ≤ 1000) (w : World) (hP : PT w) : Calls Tryd.prog 15 #[.string (bsB (27 :: 91 :: (mid ++ [z])))] w (ErrPost w) := by
  have HC := Lib.hid (cutPre_yes (mid ++ [z]) w)
  have HPR := Lib.hid (fun W => isPrefix_any c W)
  rw [hc] at HPR
  have HTB := tail_bs mid z
  have hm0 : mid.length ≤ 1000 := by omega
  have hd : decide ((mid.length : Int) > 256) = true := decide_eq_true (by omega)
  have hd2 : decide ((256 : Int) < mid.length) = true := decide_eq_true (by omega)
  have i0 := idx0_bs c l
  rw [← hcl] at i0
  have he : (bsB (mid ++ [z])).toList.isEmpty = false := by rw [bs_toList, hcl]; rfl
  clear hc hm hcl
  obtain ⟨hsz, hin, hcut⟩ := HTB
  generalize bsB (27 :: 91 :: (mid ++ [z])) = S at *
  generalize bsB (mid ++ [z]) = B at *
  generalize bsB mid = M at *
  generalize hml : mid.length = m at *
  clear hml
  have hw : IntKind.i64.wrap ((B.size : Int) - 1) = m := by rw [hsz, IntKind.wrap_i64]; omega
  unfold ErrPost
  go_enter Tryd.func15, Tryd.ntmps15
  go_wp2_with (first
    | (go_at_call 29; (with_reducible refine (HC.out).mono ?_); rintro e w1 ⟨rfl, rfl⟩)
    | (go_at_call 30; (with_reducible refine (HPR.out _).mono ?_); rintro e w1 ⟨rfl, rfl⟩))
  exact bodyPost_ret (v := .tuple #[.int .u8 0, .slice none 0 0, .int .i64 4]) (by simp [results, Tryd.results15, go_sem]) rfl ⟨rfl, Below.refl _ _⟩
set_option maxRecDepth 100000 in
set_option maxHeartbeats 4000000 in
theorem read_bare_last (mid : List UInt8) (z : UInt8) (c : UInt8) (l : List UInt8) (hcl : mid ++ [z] = c :: l) (hc : isPreB c = false) (hm : mid.length ≤ 256) (hz : isLastB z = false) (w : World) (hP : PT w) : Calls Tryd.prog 15 #[.string (bsB (27 :: 91 :: (mid ++ [z])))] w (ErrPost w) := by
  have HC := Lib.hid (cutPre_yes (mid ++ [z]) w)
  have HPR := Lib.hid (fun W => isPrefix_any c W)
  rw [hc] at HPR
  have HTB := tail_bs mid z
  have HL := Lib.hid (fun W => isLast_any z W)
  rw [hz] at HL
  have hm0 : mid.length ≤ 1000 := by omega
  have hd : decide ((mid.length : Int) > 256) = false := decide_eq_false (by omega)
  have hd2 : decide ((256 : Int) < mid.length) = false := decide_eq_false (by omega)
  have i0 := idx0_bs c l
  rw [← hcl] at i0
  have he : (bsB (mid ++ [z])).toList.isEmpty = false := by rw [bs_toList, hcl]; rfl
  clear hc hm hcl
  obtain ⟨hsz, hin, hcut⟩ := HTB
  generalize bsB (27 :: 91 :: (mid ++ [z])) = S at *
  generalize bsB (mid ++ [z]) = B at *
  generalize bsB mid = M at *
  generalize hml : mid.length = m at *
  clear hml
  have hw : IntKind.i64.wrap ((B.size : Int) - 1) = m := by rw [hsz, IntKind.wrap_i64]; omega
  unfold ErrPost
  go_enter Tryd.func15, Tryd.ntmps15
  go_wp2_with (first
    | (go_at_call 29; (with_reducible refine (HC.out).mono ?_); rintro e w1 ⟨rfl, rfl⟩)
    | (go_at_call 30; (with_reducible refine (HPR.out _).mono ?_); rintro e w1 ⟨rfl, rfl⟩)
    | (go_at_call 31; (with_reducible refine (HL.out _).mono ?_); rintro e w1 ⟨rfl, rfl⟩))
  exact bodyPost_ret (v := .tuple #[.int .u8 0, .slice none 0 0, .int .i64 4]) (by simp [results, Tryd.results15, go_sem]) rfl ⟨rfl, Below.refl _ _⟩
set_option maxRecDepth 100000 in
set_option maxHeartbeats 4000000 in
theorem read_bare_head (mid : List UInt8) (z : UInt8) (c : UInt8) (l : List UInt8) (hcl : mid ++ [z] = c :: l) (hc : isPreB c = false) (hm : mid.length ≤ 256) (hz : isLastB z = true) (hh : headL mid = false) (w : World) (hP : PT w) : Calls Tryd.prog 15 #[.string (bsB (27 :: 91 :: (mid ++ [z])))] w (ErrPost w) := by
  have HC := Lib.hid (cutPre_yes (mid ++ [z]) w)
  have HPR := Lib.hid (fun W => isPrefix_any c W)
  rw [hc] at HPR
  have HTB := tail_bs mid z
  have HL := Lib.hid (fun W => isLast_any z W)
  rw [hz] at HL
  have HPA : Hid (Calls Tryd.prog 32 #[.string (bsB mid)] w fun e w' => e = .returned (.tuple #[.slice none 0 0, .bool false]) ∧ Below w.heap.size w w') := Lib.hid ((hP.parse (bsB mid) (by rw [bsB_size]; omega)).mono fun e w' h => by
    rcases h with ⟨_, h1, h2⟩ | ⟨h, _⟩
    · exact ⟨h1, h2⟩
    · rw [bs_list, hh] at h; simp at h)
  have hm0 : mid.length ≤ 1000 := by omega
  have hd : decide ((mid.length : Int) > 256) = false := decide_eq_false (by omega)
  have hd2 : decide ((256 : Int) < mid.length) = false := decide_eq_false (by omega)
  have i0 := idx0_bs c l
  rw [← hcl] at i0
  have he : (bsB (mid ++ [z])).toList.isEmpty = false := by rw [bs_toList, hcl]; rfl
  clear hc hm hcl
  obtain ⟨hsz, hin, hcut⟩ := HTB
  generalize bsB (27 :: 91 :: (mid ++ [z])) = S at *
  generalize bsB (mid ++ [z]) = B at *
  generalize bsB mid = M at *
  generalize hml : mid.length = m at *
  clear hml
  have hw : IntKind.i64.wrap ((B.size : Int) - 1) = m := by rw [hsz, IntKind.wrap_i64]; omega
  unfold ErrPost
  go_enter Tryd.func15, Tryd.ntmps15
  go_wp2_with (first
    | (go_at_call 29; (with_reducible refine (HC.out).mono ?_); rintro e w1 ⟨rfl, rfl⟩)
    | (go_at_call 30; (with_reducible refine (HPR.out _).mono ?_); rintro e w1 ⟨rfl, rfl⟩)
    | (go_at_call 31; (with_reducible refine (HL.out _).mono ?_); rintro e w1 ⟨rfl, rfl⟩)
    | (go_at_call 32; (with_reducible refine (HPA.out).mono ?_); rintro e w1 ⟨rfl, hb⟩; have HB := Lib.hid hb; clear hb))
  exact bodyPost_ret (v := .tuple #[.int .u8 0, .slice none 0 0, .int .i64 4]) (by simp [results, Tryd.results15, go_sem]) rfl ⟨rfl, HB.out⟩
set_option maxRecDepth 100000 in
set_option maxHeartbeats 4000000 in
theorem read_bare_ok (mid : List UInt8) (z : UInt8) (c : UInt8) (l : List UInt8) (hcl : mid ++ [z] = c :: l) (hc : isPreB c = false) (hm : mid.length ≤ 256) (hz : isLastB z = true) (hh : headL mid = true) (w : World) (hP : PT w) : Calls Tryd.prog 15 #[.string (bsB (27 :: 91 :: (mid ++ [z])))] w (OkPost z mid w) := by
  have HC := Lib.hid (cutPre_yes (mid ++ [z]) w)
  have HPR := Lib.hid (fun W => isPrefix_any c W)
  rw [hc] at HPR
  have HTB := tail_bs mid z
  have HL := Lib.hid (fun W => isLast_any z W)
  rw [hz] at HL
  have HPA : Hid (Calls Tryd.prog 32 #[.string (bsB mid)] w fun e w' => ∃ A c, e = .returned (.tuple #[.slice A (HZ mid).length c, .bool true]) ∧ RG w' w'.heap.size A (HZ mid) ∧ Below w.heap.size w w') := Lib.hid ((hP.parse (bsB mid) (by rw [bsB_size]; omega)).mono fun e w' h => by
    rcases h with ⟨h, _⟩ | ⟨_, h⟩
    · rw [bs_list, hh] at h; simp at h
    · exact h)
  have hm0 : mid.length ≤ 1000 := by omega
  have hd : decide ((mid.length : Int) > 256) = false := decide_eq_false (by omega)
  have hd2 : decide ((256 : Int) < mid.length) = false := decide_eq_false (by omega)
  have i0 := idx0_bs c l
  rw [← hcl] at i0
  have he : (bsB (mid ++ [z])).toList.isEmpty = false := by rw [bs_toList, hcl]; rfl
  clear hc hm hcl
  obtain ⟨hsz, hin, hcut⟩ := HTB
  generalize bsB (27 :: 91 :: (mid ++ [z])) = S at *
  generalize bsB (mid ++ [z]) = B at *
  generalize bsB mid = M at *
  generalize hml : mid.length = m at *
  clear hml
  have hw : IntKind.i64.wrap ((B.size : Int) - 1) = m := by rw [hsz, IntKind.wrap_i64]; omega
  unfold OkPost
  go_enter Tryd.func15, Tryd.ntmps15
  go_wp2_with (first
    | (go_at_call 29; (with_reducible refine (HC.out).mono ?_); rintro e w1 ⟨rfl, rfl⟩)
    | (go_at_call 30; (with_reducible refine (HPR.out _).mono ?_); rintro e w1 ⟨rfl, rfl⟩)
    | (go_at_call 31; (with_reducible refine (HL.out _).mono ?_); rintro e w1 ⟨rfl, rfl⟩)
    | (go_at_call 32; (with_reducible refine (HPA.out).mono ?_); rintro e w1 ⟨A1, c1, rfl, hr, hb⟩; have HB := Lib.hid hb; have HR := Lib.hid hr; clear hb hr))
  exact bodyPost_ret (v := .tuple #[.int .u8 z.toNat, .slice A1 (HZ mid).length c1, .int .i64 0]) (by simp [results, Tryd.results15, go_sem]) rfl ⟨A1, c1, rfl, HR.out, HB.out⟩
set_option maxRecDepth 100000 in
set_option maxHeartbeats 4000000 in
theorem read_pre_long (mid : List UInt8) (z : UInt8) (c : UInt8) (hc : isPreB c = true) (hm : 256 < mid.length ∧ mid.length ≤ 1000) (w : World) (hP : PT w) : Calls Tryd.prog 15 #[.string (bsB (27 :: 91 :: (c :: (mid ++ [z]))))] w (ErrPost w) := by
  have HC := Lib.hid (cutPre_yes (c :: (mid ++ [z])) w)
  have HPR := Lib.hid (fun W => isPrefix_any c W)
  rw [hc] at HPR
  have HTB := tail_bs mid z
  have hm0 : mid.length ≤ 1000 := by omega
  have hd : decide ((mid.length : Int) > 256) = true := decide_eq_true (by omega)
  have hd2 : decide ((256 : Int) < mid.length) = true := decide_eq_true (by omega)
  have i0 := idx0_bs c (mid ++ [z])
  have he : (bsB (c :: (mid ++ [z]))).toList.isEmpty = false := by rw [bs_toList]; rfl
  have hz1 : (1 : Int) ≤ (bsB (c :: (mid ++ [z]))).size := by rw [bsB_size]; simp; omega
  have hx := ext_one c (mid ++ [z])
  clear hc hm
  obtain ⟨hsz, hin, hcut⟩ := HTB
  generalize bsB (27 :: 91 :: (c :: (mid ++ [z]))) = S at *
  generalize bsB (c :: (mid ++ [z])) = B0 at *
  generalize bsB (mid ++ [z]) = B at *
  generalize bsB mid = M at *
  generalize hml : mid.length = m at *
  clear hml
  have hw : IntKind.i64.wrap ((B.size : Int) - 1) = m := by rw [hsz, IntKind.wrap_i64]; omega
  unfold ErrPost
  go_enter Tryd.func15, Tryd.ntmps15
  go_wp2_with (first
    | (go_at_call 29; (with_reducible refine (HC.out).mono ?_); rintro e w1 ⟨rfl, rfl⟩)
    | (go_at_call 30; (with_reducible refine (HPR.out _).mono ?_); rintro e w1 ⟨rfl, rfl⟩))
  exact bodyPost_ret (v := .tuple #[.int .u8 0, .slice none 0 0, .int .i64 4]) (by simp [results, Tryd.results15, go_sem]) rfl ⟨rfl, Below.refl _ _⟩
set_option maxRecDepth 100000 in
set_option maxHeartbeats 4000000 in
theorem read_pre_last (mid : List UInt8) (z : UInt8) (c : UInt8) (hc : isPreB c = true) (hm : mid.length ≤ 256) (hz : isLastB z = false) (w : World) (hP : PT w) : Calls Tryd.prog 15 #[.string (bsB (27 :: 91 :: (c :: (mid ++ [z]))))] w (ErrPost w) := by
  have HC := Lib.hid (cutPre_yes (c :: (mid ++ [z])) w)
  have HPR := Lib.hid (fun W => isPrefix_any c W)
  rw [hc] at HPR
  have HTB := tail_bs mid z
  have HL := Lib.hid (fun W => isLast_any z W)
  rw [hz] at HL
  have hm0 : mid.length ≤ 1000 := by omega
  have hd : decide ((mid.length : Int) > 256) = false := decide_eq_false (by omega)
  have hd2 : decide ((256 : Int) < mid.length) = false := decide_eq_false (by omega)
  have i0 := idx0_bs c (mid ++ [z])
  have he : (bsB (c :: (mid ++ [z]))).toList.isEmpty = false := by rw [bs_toList]; rfl
  have hz1 : (1 : Int) ≤ (bsB (c :: (mid ++ [z]))).size := by rw [bsB_size]; simp; omega
  have hx := ext_one c (mid ++ [z])
  clear hc hm
  obtain ⟨hsz, hin, hcut⟩ := HTB
  generalize bsB (27 :: 91 :: (c :: (mid ++ [z]))) = S at *
  generalize bsB (c :: (mid ++ [z])) = B0 at *
  generalize bsB (mid ++ [z]) = B at *
  generalize bsB mid = M at *
  generalize hml : mid.length = m at *
  clear hml
  have hw : IntKind.i64.wrap ((B.size : Int) - 1) = m := by rw [hsz, IntKind.wrap_i64]; omega
  unfold ErrPost
  go_enter Tryd.func15, Tryd.ntmps15
  go_wp2_with (first
    | (go_at_call 29; (with_reducible refine (HC.out).mono ?_); rintro e w1 ⟨rfl, rfl⟩)
    | (go_at_call 30; (with_reducible refine (HPR.out _).mono ?_); rintro e w1 ⟨rfl, rfl⟩)
    | (go_at_call 31; (with_reducible refine (HL.out _).mono ?_); rintro e w1 ⟨rfl, rfl⟩))
  exact bodyPost_ret (v := .tuple #[.int .u8 0, .slice none 0 0, .int .i64 4]) (by simp [results, Tryd.results15, go_sem]) rfl ⟨rfl, Below.refl _ _⟩
set_option maxRecDepth 100000 in
set_option maxHeartbeats 4000000 in
theorem read_pre_head (mid : List UInt8) (z : UInt8) (c : UInt8) (hc : isPreB c = true) (hm : mid.length ≤ 256) (hz : isLastB z = true) (hh : headL mid = false) (w : World) (hP : PT w) : Calls Tryd.prog 15 #[.string (bsB (27 :: 91 :: (c :: (mid ++ [z]))))] w (ErrPost w) := by
  have HC := Lib.hid (cutPre_yes (c :: (mid ++ [z])) w)
  have HPR := Lib.hid (fun W => isPrefix_any c W)
  rw [hc] at HPR
  have HTB := tail_bs mid z
  have HL := Lib.hid (fun W => isLast_any z W)
  rw [hz] at HL
  have HPA : Hid (Calls Tryd.prog 32 #[.string (bsB mid)] w fun e w' => e = .returned (.tuple #[.slice none 0 0, .bool false]) ∧ Below w.heap.size w w') := Lib.hid ((hP.parse (bsB mid) (by rw [bsB_size]; omega)).mono fun e w' h => by
    rcases h with ⟨_, h1, h2⟩ | ⟨h, _⟩
    · exact ⟨h1, h2⟩
    · rw [bs_list, hh] at h; simp at h)
  have hm0 : mid.length ≤ 1000 := by omega
  have hd : decide ((mid.length : Int) > 256) = false := decide_eq_false (by omega)
  have hd2 : decide ((256 : Int) < mid.length) = false := decide_eq_false (by omega)
  have i0 := idx0_bs c (mid ++ [z])
  have he : (bsB (c :: (mid ++ [z]))).toList.isEmpty = false := by rw [bs_toList]; rfl
  have hz1 : (1 : Int) ≤ (bsB (c :: (mid ++ [z]))).size := by rw [bsB_size]; simp; omega
  have hx := ext_one c (mid ++ [z])
  clear hc hm
  obtain ⟨hsz, hin, hcut⟩ := HTB
  generalize bsB (27 :: 91 :: (c :: (mid ++ [z]))) = S at *
  generalize bsB (c :: (mid ++ [z])) = B0 at *
  generalize bsB (mid ++ [z]) = B at *
  generalize bsB mid = M at *
  generalize hml : mid.length = m at *
  clear hml
  have hw : IntKind.i64.wrap ((B.size : Int) - 1) = m := by rw [hsz, IntKind.wrap_i64]; omega
  unfold ErrPost
  go_enter Tryd.func15, Tryd.ntmps15
  go_wp2_with (first
    | (go_at_call 29; (with_reducible refine (HC.out).mono ?_); rintro e w1 ⟨rfl, rfl⟩)
    | (go_at_call 30; (with_reducible refine (HPR.out _).mono ?_); rintro e w1 ⟨rfl, rfl⟩)
    | (go_at_call 31; (with_reducible refine (HL.out _).mono ?_); rintro e w1 ⟨rfl, rfl⟩)
    | (go_at_call 32; (with_reducible refine (HPA.out).mono ?_); rintro e w1 ⟨rfl, hb⟩; have HB := Lib.hid hb; clear hb))
  exact bodyPost_ret (v := .tuple #[.int .u8 0, .slice none 0 0, .int .i64 4]) (by simp [results, Tryd.results15, go_sem]) rfl ⟨rfl, HB.out⟩
set_option maxRecDepth 100000 in
set_option maxHeartbeats 4000000 in
theorem read_pre_ok (mid : List UInt8) (z : UInt8) (c : UInt8) (hc : isPreB c = true) (hm : mid.length ≤ 256) (hz : isLastB z = true) (hh : headL mid = true) (w : World) (hP : PT w) : Calls Tryd.prog 15 #[.string (bsB (27 :: 91 :: (c :: (mid ++ [z]))))] w (OkPost z mid w) := by
  have HC := Lib.hid (cutPre_yes (c :: (mid ++ [z])) w)
  have HPR := Lib.hid (fun W => isPrefix_any c W)
  rw [hc] at HPR
  have HTB := tail_bs mid z
  have HL := Lib.hid (fun W => isLast_any z W)
  rw [hz] at HL
  have HPA : Hid (Calls Tryd.prog 32 #[.string (bsB mid)] w fun e w' => ∃ A c, e = .returned (.tuple #[.slice A (HZ mid).length c, .bool true]) ∧ RG w' w'.heap.size A (HZ mid) ∧ Below w.heap.size w w') := Lib.hid ((hP.parse (bsB mid) (by rw [bsB_size]; omega)).mono fun e w' h => by
    rcases h with ⟨h, _⟩ | ⟨_, h⟩
    · rw [bs_list, hh] at h; simp at h
    · exact h)
  have hm0 : mid.length ≤ 1000 := by omega
  have hd : decide ((mid.length : Int) > 256) = false := decide_eq_false (by omega)
  have hd2 : decide ((256 : Int) < mid.length) = false := decide_eq_false (by omega)
  have i0 := idx0_bs c (mid ++ [z])
  have he : (bsB (c :: (mid ++ [z]))).toList.isEmpty = false := by rw [bs_toList]; rfl
  have hz1 : (1 : Int) ≤ (bsB (c :: (mid ++ [z]))).size := by rw [bsB_size]; simp; omega
  have hx := ext_one c (mid ++ [z])
  clear hc hm
  obtain ⟨hsz, hin, hcut⟩ := HTB
  generalize bsB (27 :: 91 :: (c :: (mid ++ [z]))) = S at *
  generalize bsB (c :: (mid ++ [z])) = B0 at *
  generalize bsB (mid ++ [z]) = B at *
  generalize bsB mid = M at *
  generalize hml : mid.length = m at *
  clear hml
  have hw : IntKind.i64.wrap ((B.size : Int) - 1) = m := by rw [hsz, IntKind.wrap_i64]; omega
  unfold OkPost
  go_enter Tryd.func15, Tryd.ntmps15
  go_wp2_with (first
    | (go_at_call 29; (with_reducible refine (HC.out).mono ?_); rintro e w1 ⟨rfl, rfl⟩)
    | (go_at_call 30; (with_reducible refine (HPR.out _).mono ?_); rintro e w1 ⟨rfl, rfl⟩)
    | (go_at_call 31; (with_reducible refine (HL.out _).mono ?_); rintro e w1 ⟨rfl, rfl⟩)
    | (go_at_call 32; (with_reducible refine (HPA.out).mono ?_); rintro e w1 ⟨A1, c1, rfl, hr, hb⟩; have HB := Lib.hid hb; have HR := Lib.hid hr; clear hb hr))
  exact bodyPost_ret (v := .tuple #[.int .u8 z.toNat, .slice A1 (HZ mid).length c1, .int .i64 0]) (by simp [results, Tryd.results15, go_sem]) rfl ⟨A1, c1, rfl, HR.out, HB.out⟩
set_option maxRecDepth 100000 in
set_option maxHeartbeats 4000000 in
theorem read_lone (c : UInt8) (hc : isPreB c = true) (w : World) : Calls Tryd.prog 15 #[.string (bsB [27, 91, c])] w (ErrPost w) := by
  have HC : Hid (Calls Tryd.prog 29 #[.string (bsB [27, 91, c]), .string ⟨#[27, 91]⟩] w fun e w' => e = .returned (.tuple #[.string (bsB [c]), .bool true]) ∧ w' = w) := Lib.hid (cutPre_yes [c] w)
  have HPR := Lib.hid (fun W => isPrefix_any c W)
  rw [hc] at HPR
  have i0 := idx0_bs c []
  have he : (bsB [c]).toList.isEmpty = false := by rw [bs_toList]; rfl
  have hz1 : (1 : Int) ≤ (bsB [c]).size := by rw [bsB_size]; simp
  have hx : (bsB [c]).extract 1 (bsB [c]).size = bsB [] := by
    rw [bs_extract, bsB_size]
    rfl
  have hsz : (bsB []).size = 0 := by rw [bsB_size]; rfl
  generalize bsB [27, 91, c] = S at *
  generalize bsB [c] = B0 at *
  generalize bsB [] = B at *
  unfold ErrPost
  go_enter Tryd.func15, Tryd.ntmps15
  go_wp2_with (first
    | (go_at_call 29; (with_reducible refine (HC.out).mono ?_); rintro e w1 ⟨rfl, rfl⟩)
    | (go_at_call 30; (with_reducible refine (HPR.out _).mono ?_); rintro e w1 ⟨rfl, rfl⟩))
  exact bodyPost_ret (v := .tuple #[.int .u8 0, .slice none 0 0, .int .i64 4]) (by simp [results, Tryd.results15, go_sem]) rfl ⟨rfl, Below.refl _ _⟩
end Go.Proofs.YtlolbfbkoimjkaaDoor
