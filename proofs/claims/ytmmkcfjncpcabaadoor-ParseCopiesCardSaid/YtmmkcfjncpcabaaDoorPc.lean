/- The walk of param.number. -/
import Derived.Test.YtmmkcfjncpcabaaDoorPa
namespace Go.Proofs.YtmmkcfjncpcabaaDoor
open Go.RowKit

theorem numD_take (l : List UInt8) (k : Nat) (h : k < l.length) : numD (l.take (k + 1)) = min (numD (l.take k) * 10 + (((l[k]'h).toNat : Int) - 48)) 65535 := by
  rw [List.take_succ_eq_append_getElem h, numD_snoc]
set_option maxRecDepth 100000 in
set_option maxHeartbeats 1000000 in
theorem number_any (s : ByteArray) (w : World) (hs : s.size ≤ 1000000) (hd : ∀ x ∈ s.data.toList, 48 ≤ x.toNat ∧ x.toNat ≤ 57) :
    Calls Tryd.prog 69 #[.string s] w fun e w' => e = .returned (.int .i64 (numZ s.data.toList)) ∧ w = w' := by
  have HSZ : Hid (s.data.toList.length = s.size) := Lib.hid (by simp)
  by_cases h0 : s.size = 0
  · have hl : s.data.toList = [] := List.eq_nil_of_length_eq_zero (by rw [HSZ.out]; exact h0)
    have h1 : s.toList.isEmpty = true := by rw [Lib.toList_data, hl]; rfl
    have h2 : s.toList = [] := by rw [Lib.toList_data, hl]
    have HE : Hid (numZ s.data.toList = -1) := Lib.hid (by rw [hl]; rfl)
    clear hl h0 hd
    go_enter Tryd.func69, Tryd.ntmps69
    go_wp2
    go_ret
    exact ⟨by rw [HE.out]; rfl, rfl⟩
  · have hne : s.data.toList ≠ [] := fun e => h0 (by rw [← HSZ.out, e]; rfl)
    have h1 : s.toList.isEmpty = false := by
      rw [Lib.toList_data]
      cases h : s.data.toList with
      | nil => exact absurd h hne
      | cons a b => rfl
    have HE : Hid (numZ s.data.toList = numD s.data.toList) := Lib.hid (if_neg hne)
    have HD := Lib.hid hd
    clear hne h0 hd
    go_enter Tryd.func69, Tryd.ntmps69
    go_wp2
    go_loop [3, 9] (fun n i => ∃ (k : Nat) (y : Int), k ≤ s.size ∧ i = .int .i64 k ∧ n = .int .i64 y ∧ 0 ≤ y ∧ y ≤ 65535 ∧ Hid (y = numD (s.data.toList.take k))) (fun _ i => s.size - (intOf i).toNat)
    case atStart => exact ⟨0, 0, Nat.zero_le _, rfl, rfl, by omega, by omega, Lib.hid rfl⟩
    case round =>
      obtain ⟨k, y, hk, rfl, rfl, hy0, hy1, HY⟩ := hrel
      by_cases hlt : k < s.size
      · have hki : (k : Int) < s.size := by omega
        have hkl : k < s.data.toList.length := by rw [HSZ.out]; exact hlt
        obtain ⟨x, hx⟩ : ∃ x, s[k] = x := ⟨_, rfl⟩
        have HX : Hid (s.data.toList[k]'hkl = x) := Lib.hid (by rw [← hx]; rfl)
        have hxb := HD.out x (by rw [← HX.out]; exact List.getElem_mem hkl)
        have hx1 := hxb.1
        have hx2 := hxb.2
        have HN : Hid (numD (s.data.toList.take (k + 1)) = min (y * 10 + ((x.toNat : Int) - 48)) 65535) := Lib.hid (by rw [numD_take _ k hkl, ← HY.out, HX.out])
        clear hxb HX HY HD
        go_wp2
        all_goals
          go_round
          case rel => exact ⟨k + 1, _, hlt, by go_num, rfl, by omega, by omega, by have := HN.out; exact Lib.hid (by omega)⟩
          case measure => simp [intOf]; omega
      · obtain rfl : k = s.size := by omega
        have HZ : Hid (y = numD s.data.toList) := Lib.hid (by rw [HY.out, List.take_of_length_le (by rw [HSZ.out]; exact Nat.le_refl _)])
        clear HY HD
        go_wp2
        go_ret
        exact ⟨by rw [HE.out, ← HZ.out]; rfl, rfl⟩

end Go.Proofs.YtmmkcfjncpcabaaDoor
