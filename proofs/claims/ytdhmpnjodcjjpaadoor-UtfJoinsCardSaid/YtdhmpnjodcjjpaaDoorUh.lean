/- The walks of utf.Put and utf.Size. -/
import Derived.Test.YtdhmpnjodcjjpaaDoorUf
namespace Go.Proofs.YtdhmpnjodcjjpaaDoor
open Go.RowKit

def scalarB (r : Int) : Bool := decide ((0 ≤ r ∧ r < 55296) ∨ (57343 < r ∧ r ≤ 1114111))
set_option maxHeartbeats 400000 in
theorem valid_any (r : Int) (w : World) :
    Calls Tryd.prog 26 #[.int .i32 r] w fun e w' => e = .returned (.bool (scalarB r)) ∧ w = w' := by
  go_enter Tryd.func26, Tryd.ntmps26
  go_wp2
  all_goals
    go_ret
    refine ⟨?_, rfl⟩
    first
      | (have e : scalarB r = true := decide_eq_true (by omega); rw [e]; rfl)
      | (have e : scalarB r = false := decide_eq_false (by omega); rw [e]; rfl)
def sizeN (c : Nat) : Nat := if c < 128 then 1 else if 194 ≤ c ∧ c ≤ 223 then 2 else if 224 ≤ c ∧ c ≤ 239 then 3 else if 240 ≤ c ∧ c ≤ 244 then 4 else 0
set_option maxRecDepth 100000 in
set_option maxHeartbeats 400000 in
theorem size_any (c : Nat) (w : World) :
    Calls Tryd.prog 19 #[.int .u8 c] w fun e w' => e = .returned (.int .i64 (sizeN c)) ∧ w = w' := by
  by_cases h1 : c < 128
  · have HZ : Hid (sizeN c = 1) := Lib.hid (by unfold sizeN; rw [if_pos h1])
    have h1' : (c : Int) < 128 := by omega
    go_enter Tryd.func19, Tryd.ntmps19
    go_wp2
    go_ret
    exact ⟨by rw [HZ.out]; rfl, rfl⟩
  have k1 : ¬ (c : Int) < 128 := by omega
  by_cases h2 : 194 ≤ c ∧ c ≤ 223
  · have HZ : Hid (sizeN c = 2) := Lib.hid (by unfold sizeN; rw [if_neg h1, if_pos h2])
    have a : (194 : Int) ≤ c := by omega
    have b : (c : Int) ≤ 223 := by omega
    clear h2
    go_enter Tryd.func19, Tryd.ntmps19
    go_wp2
    go_ret
    exact ⟨by rw [HZ.out]; rfl, rfl⟩
  by_cases h3 : 224 ≤ c ∧ c ≤ 239
  · have HZ : Hid (sizeN c = 3) := Lib.hid (by unfold sizeN; rw [if_neg h1, if_neg h2, if_pos h3])
    have a : (224 : Int) ≤ c := by omega
    have b : (c : Int) ≤ 239 := by omega
    clear h2 h3
    go_enter Tryd.func19, Tryd.ntmps19
    go_wp2
    go_ret
    exact ⟨by rw [HZ.out]; rfl, rfl⟩
  by_cases h4 : 240 ≤ c ∧ c ≤ 244
  · have HZ : Hid (sizeN c = 4) := Lib.hid (by unfold sizeN; rw [if_neg h1, if_neg h2, if_neg h3, if_pos h4])
    have a : (240 : Int) ≤ c := by omega
    have b : (c : Int) ≤ 244 := by omega
    clear h2 h3 h4
    go_enter Tryd.func19, Tryd.ntmps19
    go_wp2
    go_ret
    exact ⟨by rw [HZ.out]; rfl, rfl⟩
  have HZ : Hid (sizeN c = 0) := Lib.hid (by unfold sizeN; rw [if_neg h1, if_neg h2, if_neg h3, if_neg h4])
  have hc : c < 194 ∨ 244 < c := by omega
  rcases hc with hc | hc
  · have a : (c : Int) < 194 := by omega
    clear h2 h3 h4
    go_enter Tryd.func19, Tryd.ntmps19
    go_wp2
    go_ret
    exact ⟨by rw [HZ.out]; rfl, rfl⟩
  · have a : (244 : Int) < c := by omega
    clear h2 h3 h4
    go_enter Tryd.func19, Tryd.ntmps19
    go_wp2
    go_ret
    exact ⟨by rw [HZ.out]; rfl, rfl⟩

set_option maxHeartbeats 400000 in
theorem put_yes (r : Int) (h : scalarB r = true) (w : World) :
    Calls Tryd.prog 14 #[.int .i32 r] w fun e w' => e = .returned (.string (Utf8.encode r)) ∧ w = w' := by
  have hv := valid_any r
  rw [h] at hv
  clear h
  go_enter Tryd.func14, Tryd.ntmps14
  go_wp2_with (go_at_call 26; refine (hv _).mono ?_; clear hv; rintro e w1 ⟨rfl, rfl⟩)
  go_ret
  exact ⟨rfl, rfl⟩
set_option maxHeartbeats 400000 in
theorem put_no (r : Int) (h : scalarB r = false) (w : World) :
    Calls Tryd.prog 14 #[.int .i32 r] w fun e w' => e = .returned (.string ByteArray.empty) ∧ w = w' := by
  have hv := valid_any r
  rw [h] at hv
  clear h
  go_enter Tryd.func14, Tryd.ntmps14
  go_wp2_with (go_at_call 26; refine (hv _).mono ?_; clear hv; rintro e w1 ⟨rfl, rfl⟩)
  go_ret
  exact ⟨rfl, rfl⟩

end Go.Proofs.YtdhmpnjodcjjpaaDoor
