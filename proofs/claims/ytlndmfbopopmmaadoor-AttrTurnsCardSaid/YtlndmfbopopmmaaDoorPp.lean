/- The walks of Great and of the law ParamCleans. -/
import Derived.Test.YtlndmfbopopmmaaDoorPo
import Derived.Test.YtlndmfbopopmmaaDoorPg
namespace Go.Proofs.YtlndmfbopopmmaaDoor
open Go.RowKit

def greatB (l : List (List Int)) : Bool := decide (60 < l.length) || l.any fun r => decide (20 < r.length)
theorem great_no {l : List (List Int)} (h : greatB l = false) : l.length ≤ 60 ∧ ∀ r ∈ l, r.length ≤ 20 := by
  unfold greatB at h
  rw [Bool.or_eq_false_iff] at h
  refine ⟨by have := of_decide_eq_false h.1; omega, fun r hr => ?_⟩
  have := List.any_eq_false.1 h.2 r hr
  simp at this
  omega
theorem great_row (l : List (List Int)) (k : Nat) (h : k < l.length) (h20 : 20 < (l[k]?.getD []).length) : greatB l = true := by
  unfold greatB
  rw [Bool.or_eq_true]
  refine .inr (List.any_eq_true.2 ⟨l[k], List.getElem_mem h, ?_⟩)
  rw [List.getElem?_eq_getElem h] at h20
  exact decide_eq_true h20
set_option maxHeartbeats 1000000 in
theorem great_any (A : Option Addr) (l : List (List Int)) (n cp : Nat) (hn : n = l.length) (w : World) (hR : RG w w.heap.size A l) :
    Calls Tryd.prog 11 #[.slice A n cp] w fun e w' => e = .returned (.bool (greatB l)) ∧ w = w' := by
  by_cases h60 : 60 < n
  · have hd : (60 : Int) < n := by omega
    have HE : Hid (greatB l = true) := Lib.hid (by unfold greatB; rw [decide_eq_true (by omega)]; rfl)
    clear hn hR
    go_enter Tryd.func11, Tryd.ntmps11
    go_wp2
    go_ret
    exact ⟨by rw [HE.out]; rfl, rfl⟩
  · have hd : (n : Int) ≤ 60 := by omega
    have HN := Lib.hid hn
    have HR := Lib.hid hR
    clear hn hR
    go_enter Tryd.func11, Tryd.ntmps11
    go_wp2
    go_loop [3] (fun i => ∃ k : Nat, k ≤ n ∧ i = .int .i64 k ∧ Hid (∀ r ∈ l.take k, r.length ≤ 20)) (fun i => n - (intOf i).toNat)
    case atStart => exact ⟨0, Nat.zero_le _, rfl, Lib.hid (by simp)⟩
    case round =>
      obtain ⟨k, hk, rfl, HK⟩ := hrel
      by_cases hlt : k < n
      · have hki : (k : Int) < n := by omega
        have hkl : k < l.length := by have := HN.out; omega
        obtain ⟨b, off, rfl, hbl, hcx⟩ := HR.out (fun e => by rw [e] at hkl; simp at hkl)
        obtain ⟨Ai, ci, hck, _, _⟩ := hcx k hkl
        have HG : Hid (20 < (l[k]?.getD []).length → greatB l = true) := Lib.hid (great_row l k hkl)
        have HS : Hid ((l[k]?.getD []).length ≤ 20 → ∀ r ∈ l.take (k + 1), r.length ≤ 20) := Lib.hid fun h r hr => by
          rw [take_snocL l k [] hkl] at hr
          rcases List.mem_append.1 hr with h1 | h1
          · exact HK.out r h1
          · simp at h1
            rw [h1]
            exact h
        clear HK HR HN hcx hkl
        generalize (l[k]?.getD []).length = m at *
        by_cases h20 : 20 < m
        · have hd1 : decide (20 < m) = true := decide_eq_true h20
          have hd2 : (20 : Int) < m := by omega
          go_wp2
          go_ret
          exact ⟨by rw [HG.out h20]; rfl, rfl⟩
        · have hd1 : decide (20 < m) = false := decide_eq_false h20
          have hd2 : decide ((20 : Int) < m) = false := decide_eq_false (by omega)
          have HS2 := Lib.hid (HS.out (by omega))
          clear h20 HS HG
          go_wp2
          go_round
          case rel => exact ⟨k + 1, hlt, by go_num, HS2⟩
          case measure => simp [intOf]; omega
      · obtain rfl : k = n := by omega
        have HE : Hid (greatB l = false) := Lib.hid (by
          unfold greatB
          rw [Bool.or_eq_false_iff]
          have h := HK.out
          rw [List.take_of_length_le (by rw [← HN.out]; exact Nat.le_refl _)] at h
          exact ⟨decide_eq_false (by have := HN.out; omega), List.any_eq_false.2 fun r hr => by have := h r hr; simp; omega⟩)
        clear HK
        go_wp2
        go_ret
        exact ⟨by rw [HE.out]; rfl, rfl⟩

end Go.Proofs.YtlndmfbopopmmaaDoor
