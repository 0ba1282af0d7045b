/- The law ReplyReads. -/
import Derived.Test.YtlolbfbkoimjkaaDoorJj
namespace Go.Proofs.YtlolbfbkoimjkaaDoor
open Go.RowKit

/-- Both read a text alike. -/
def BothRead (S : ByteArray) (w : World) : Prop :=
  (Calls Tryd.prog 15 #[.string S] w (ErrPost w) ∧ ∀ W, Calls Tryd.prog 16 #[.string S] W (NonePost W)) ∨
  (∃ z mid, Calls Tryd.prog 15 #[.string S] w (OkPost z mid w) ∧ ∀ W, Calls Tryd.prog 16 #[.string S] W (SomePost z mid W))
theorem last_split (z : UInt8) (h : isLastB z = false) : z.toNat < 64 ∨ 126 < z.toNat := by
  unfold isLastB at h
  by_cases h1 : 64 ≤ z.toNat
  · rw [decide_eq_true h1, Bool.true_and] at h
    have := of_decide_eq_false h
    omega
  · omega
theorem pre_not_last {c : UInt8} (h : isPreB c = true) : c.toNat < 64 := by
  unfold isPreB at h
  simp only [Bool.and_eq_true, decide_eq_true_eq] at h
  omega
theorem both_body (body : List UInt8) (hb : body.length ≤ 400) (w : World) (hP : PT w) : BothRead (bsB (27 :: 91 :: body)) w := by
  rcases List.eq_nil_or_concat body with rfl | ⟨q, z, hqz⟩
  · exact .inl ⟨read_empty w, fun W => ref_short _ (by rw [bsB_size]; simp) W⟩
  have hqz' : body = q ++ [z] := by rw [hqz]; simp
  subst hqz'
  have hq : q.length ≤ 400 := by simp at hb; omega
  cases q with
  | nil =>
    show BothRead (bsB (27 :: 91 :: ([] ++ [z]))) w
    cases hp : isPreB z with
    | true => exact .inl ⟨read_lone z hp w, fun W => ref_none_low z (pre_not_last hp) W⟩
    | false =>
      cases hz : isLastB z with
      | false =>
        refine .inl ⟨read_bare_last [] z z [] rfl hp (by simp) hz w hP, fun W => ?_⟩
        rcases last_split z hz with h | h
        · exact ref_none_low z h W
        · exact ref_none_high z h W
      | true => exact .inr ⟨z, [], read_bare_ok [] z z [] rfl hp (by simp) hz rfl w hP, fun W => ref_none_ok z hz rfl W⟩
  | cons c r =>
    simp only [List.length_cons] at hq
    cases hp : isPreB c with
    | true =>
      show BothRead (bsB (27 :: 91 :: (c :: (r ++ [z])))) w
      cases hz : isLastB z with
      | false =>
        have hr : ∀ W, Calls Tryd.prog 16 #[.string (bsB (27 :: 91 :: ((c :: r) ++ [z])))] W (NonePost W) := fun W => by
          rcases last_split z hz with h | h
          · exact ref_bare_low z c r (by omega) h W
          · exact ref_bare_high z c r (by omega) h W
        by_cases hm : r.length ≤ 256
        · exact .inl ⟨read_pre_last r z c hp hm hz w hP, hr⟩
        · exact .inl ⟨read_pre_long r z c hp ⟨by omega, by omega⟩ w hP, hr⟩
      | true =>
        by_cases hm : r.length ≤ 256
        · cases hh : headL r with
          | false => exact .inl ⟨read_pre_head r z c hp hm hz hh w hP, fun W => ref_pre_head z c r (by omega) hp hz hh W⟩
          | true => exact .inr ⟨z, r, read_pre_ok r z c hp hm hz hh w hP, fun W => ref_pre_ok z c r (by omega) hp hz hh hm W⟩
        · refine .inl ⟨read_pre_long r z c hp ⟨by omega, by omega⟩ w hP, fun W => ?_⟩
          cases hh : headL r with
          | false => exact ref_pre_head z c r (by omega) hp hz hh W
          | true => exact ref_pre_long z c r (by omega) hp hz hh (by omega) W
    | false =>
      cases hz : isLastB z with
      | false =>
        have hr : ∀ W, Calls Tryd.prog 16 #[.string (bsB (27 :: 91 :: ((c :: r) ++ [z])))] W (NonePost W) := fun W => by
          rcases last_split z hz with h | h
          · exact ref_bare_low z c r (by omega) h W
          · exact ref_bare_high z c r (by omega) h W
        by_cases hm : (c :: r).length ≤ 256
        · exact .inl ⟨read_bare_last (c :: r) z c (r ++ [z]) rfl hp hm hz w hP, hr⟩
        · exact .inl ⟨read_bare_long (c :: r) z c (r ++ [z]) rfl hp ⟨by omega, by simp only [List.length_cons]; omega⟩ w hP, hr⟩
      | true =>
        by_cases hm : (c :: r).length ≤ 256
        · cases hh : headL (c :: r) with
          | false => exact .inl ⟨read_bare_head (c :: r) z c (r ++ [z]) rfl hp hm hz hh w hP, fun W => ref_bare_head z c r (by omega) hp hz hh W⟩
          | true => exact .inr ⟨z, c :: r, read_bare_ok (c :: r) z c (r ++ [z]) rfl hp hm hz hh w hP, fun W => ref_bare_ok z c r (by omega) hp hz hh hm W⟩
        · refine .inl ⟨read_bare_long (c :: r) z c (r ++ [z]) rfl hp ⟨by omega, by simp only [List.length_cons]; omega⟩ w hP, fun W => ?_⟩
          cases hh : headL (c :: r) with
          | false => exact ref_bare_head z c r (by omega) hp hz hh W
          | true => exact ref_bare_long z c r (by omega) hp hz hh (by omega) W
theorem bs_self (s : ByteArray) : bsB s.data.toList = s := by
  apply ByteArray.ext
  simp [bsB]
theorem both_any (s : ByteArray) (hs : s.size ≤ 400) (w : World) (hP : PT w) : BothRead s w := by
  have hl : s.data.toList.length ≤ 400 := by simpa using hs
  rw [← bs_self s]
  generalize s.data.toList = l at *
  match l, hl with
  | [], _ => exact .inl ⟨read_no _ (by rw [bs_toList]; decide) w, fun W => ref_short _ (by rw [bsB_size]; simp) W⟩
  | [a], _ => exact .inl ⟨read_no _ (by rw [bs_toList]; simp) w, fun W => ref_short _ (by rw [bsB_size]; simp) W⟩
  | [a, b], hl =>
    by_cases h : a = 27 ∧ b = 91
    · obtain ⟨rfl, rfl⟩ := h
      exact both_body [] (by simp) w hP
    · exact .inl ⟨read_no _ (by rw [bs_toList]; simpa using fun e1 e2 => h ⟨e1, e2⟩) w, fun W => ref_short _ (by rw [bsB_size]; simp) W⟩
  | a :: b :: c :: t, hl =>
    by_cases ha : a = 27
    · subst ha
      by_cases hb : b = 91
      · subst hb
        exact both_body (c :: t) (by simp only [List.length_cons] at hl ⊢; omega) w hP
      · exact .inl ⟨read_no _ (by rw [bs_toList]; simpa using hb) w, fun W => ref_second b c t hb W⟩
    · exact .inl ⟨read_no _ (by rw [bs_toList]; simpa using fun e => absurd e ha) w, fun W => ref_first a b c t ha W⟩
set_option maxRecDepth 100000 in
set_option maxHeartbeats 4000000 in
theorem replyReads_law (s : ByteArray) (w : World) (hT : T10 w.heap.size w) (hP : PT w) (hmax : s.size ≤ 9223372036854775807) :
    Calls Tryd.prog 5 #[.string s] w fun e w' => e = .returned (.bool true) ∧ Below w.heap.size w w' := by
  have HA : Hid (∀ W, Below w.heap.size w W → Calls Tryd.prog 12 #[] W fun e w' => e = .returned (.bool true) ∧ Below W.heap.size W w') := Lib.hid fun W hb => awake_any W (hT.on hb hb.size)
  by_cases h400 : 400 < s.size
  · have hd : (400 : Int) < s.size := by omega
    clear hT hP
    go_enter Tryd.func5, Tryd.ntmps5
    go_wp2_with (go_at_call 12; (with_reducible refine (HA.out _ (Below.refl _ _)).mono ?_); rintro e w2 ⟨rfl, hb2⟩)
    go_ret
    exact ⟨rfl, hb2⟩
  · have hd : (s.size : Int) ≤ 400 := by omega
    rcases both_any s (by omega) w hP with ⟨h1, h2⟩ | ⟨z, mid, h1, h2⟩
    · have H1 := Lib.hid h1
      have H2 := Lib.hid h2
      clear hT hP h400 h1 h2
      unfold ErrPost NonePost at *
      go_enter Tryd.func5, Tryd.ntmps5
      go_wp2_with (first
        | (go_at_call 15; (with_reducible refine (H1.out).mono ?_); rintro e w2 ⟨rfl, hb⟩; have HB2 := Lib.hid hb; clear hb)
        | (go_at_call 16; (with_reducible refine (H2.out _).mono ?_); rintro e w3 ⟨rfl, hb⟩; have HB3 := Lib.hid (bel0 HB2.out hb); clear hb)
        | (go_at_call 12; (with_reducible refine (HA.out _ HB3.out).mono ?_); rintro e w4 ⟨rfl, hb⟩; have HB4 := Lib.hid (bel0 HB3.out hb); clear hb))
      go_ret
      exact ⟨rfl, HB4.out⟩
    · have H1 := Lib.hid h1
      have H2 := Lib.hid h2
      have hl32 := HZ_len mid
      have HS : Hid (∀ W A A' c c', RG W W.heap.size A (HZ mid) → RG W W.heap.size A' (HZ mid) → Calls Tryd.prog 17 #[.slice A (HZ mid).length c, .slice A' (HZ mid).length c'] W fun e w' => e = .returned (.bool true) ∧ Below W.heap.size W w') := Lib.hid fun W A A' c c' h1 h2 => by
        have := same_any A A' (HZ mid) (HZ mid) _ _ c c' rfl rfl (by omega) (HZ_row mid) W h1 h2
        rw [show sameL (HZ mid) (HZ mid) = true from decide_eq_true rfl] at this
        exact this
      clear hT hP h400 h1 h2
      unfold OkPost SomePost at *
      generalize HZ mid = L at *
      go_enter Tryd.func5, Tryd.ntmps5
      go_wp2_with (first
        | (go_at_call 15; (with_reducible refine (H1.out).mono ?_); rintro e w2 ⟨A2, c2, rfl, hr, hb⟩; have HB2 := Lib.hid hb; have HR2 := Lib.hid hr; clear hb hr)
        | (go_at_call 16; (with_reducible refine (H2.out _).mono ?_); rintro e w3 ⟨A3, c3, rfl, hr, hb⟩; have HB3 := Lib.hid (bel0 HB2.out hb); have HR3 := Lib.hid hr; have HR23 := Lib.hid (HR2.out.past hb); clear hb hr)
        | (go_at_call 17; (with_reducible refine (HS.out _ _ _ _ _ HR23.out HR3.out).mono ?_); rintro e w4 ⟨rfl, hb⟩; have HB4 := Lib.hid (bel0 HB3.out hb); clear hb)
        | (go_at_call 12; (with_reducible refine (HA.out _ HB4.out).mono ?_); rintro e w5 ⟨rfl, hb⟩; have HB5 := Lib.hid (bel0 HB4.out hb); clear hb))
      go_ret
      exact ⟨rfl, HB5.out⟩
end Go.Proofs.YtlolbfbkoimjkaaDoor
