/- The walks of Great and of the law ParamCleans. -/
import Derived.Test.YtjhcjdkbichabaaDoorPo
import Derived.Test.YtjhcjdkbichabaaDoorPg
namespace Go.Proofs.YtjhcjdkbichabaaDoor
open Go.RowKit

def greatB (l : List (List Int)) : Bool := decide (60 < l.length) || l.any fun r => decide (20 < r.length)
theorem great_no {l : List (List Int)} (h : greatB l = false) : l.length ≤ 60 ∧ ∀ r ∈ l, r.length ≤ 20 := by
  unfold greatB at h
  rw [Bool.or_eq_false_iff] at h
  refine ⟨by have := of_decide_eq_false h.1; omega, fun r hr => ?_⟩
  have := List.any_eq_false.1 h.2 r hr
  simp at this
  omega
theorem great_row (l : List (List Int)) (k : Nat) (h : k < l.length) (h20 : 20 < (l[k]?.getD []).length) : greatB l = true := by
  unfold greatB
  rw [Bool.or_eq_true]
  refine .inr (List.any_eq_true.2 ⟨l[k], List.getElem_mem h, ?_⟩)
  rw [List.getElem?_eq_getElem h] at h20
  exact decide_eq_true h20
set_option maxHeartbeats 1000000 in
theorem great_any (A : Option Addr) (l : List (List Int)) (n cp : Nat) (hn : n = l.length) (w : World) (hR : RG w w.heap.size A l) :
    Calls Tryd.prog 12 #[.slice A n cp] w fun e w' => e = .returned (.bool (greatB l)) ∧ w = w' := by
  by_cases h60 : 60 < n
  · have hd : (60 : Int) < n := by omega
    have HE : Hid (greatB l = true) := Lib.hid (by unfold greatB; rw [decide_eq_true (by omega)]; rfl)
    clear hn hR
    go_enter Tryd.func12, Tryd.ntmps12
    go_wp2
    go_ret
    exact ⟨by rw [HE.out]; rfl, rfl⟩
  · have hd : (n : Int) ≤ 60 := by omega
    have HN := Lib.hid hn
    have HR := Lib.hid hR
    clear hn hR
    go_enter Tryd.func12, Tryd.ntmps12
    go_wp2
    go_loop [3] (fun i => ∃ k : Nat, k ≤ n ∧ i = .int .i64 k ∧ Hid (∀ r ∈ l.take k, r.length ≤ 20)) (fun i => n - (intOf i).toNat)
    case atStart => exact ⟨0, Nat.zero_le _, rfl, Lib.hid (by simp)⟩
    case round =>
      obtain ⟨k, hk, rfl, HK⟩ := hrel
      by_cases hlt : k < n
      · have hki : (k : Int) < n := by omega
        have hkl : k < l.length := by have := HN.out; omega
        obtain ⟨b, off, rfl, hbl, hcx⟩ := HR.out (fun e => by rw [e] at hkl; simp at hkl)
        obtain ⟨Ai, ci, hck, _, _⟩ := hcx k hkl
        have HG : Hid (20 < (l[k]?.getD []).length → greatB l = true) := Lib.hid (great_row l k hkl)
        have HS : Hid ((l[k]?.getD []).length ≤ 20 → ∀ r ∈ l.take (k + 1), r.length ≤ 20) := Lib.hid fun h r hr => by
          rw [take_snocL l k [] hkl] at hr
          rcases List.mem_append.1 hr with h1 | h1
          · exact HK.out r h1
          · simp at h1
            rw [h1]
            exact h
        clear HK HR HN hcx hkl
        generalize (l[k]?.getD []).length = m at *
        by_cases h20 : 20 < m
        · have hd1 : decide (20 < m) = true := decide_eq_true h20
          have hd2 : (20 : Int) < m := by omega
          go_wp2
          go_ret
          exact ⟨by rw [HG.out h20]; rfl, rfl⟩
        · have hd1 : decide (20 < m) = false := decide_eq_false h20
          have hd2 : decide ((20 : Int) < m) = false := decide_eq_false (by omega)
          have HS2 := Lib.hid (HS.out (by omega))
          clear h20 HS HG
          go_wp2
          go_round
          case rel => exact ⟨k + 1, hlt, by go_num, HS2⟩
          case measure => simp [intOf]; omega
      · obtain rfl : k = n := by omega
        have HE : Hid (greatB l = false) := Lib.hid (by
          unfold greatB
          rw [Bool.or_eq_false_iff]
          have h := HK.out
          rw [List.take_of_length_le (by rw [← HN.out]; exact Nat.le_refl _)] at h
          exact ⟨decide_eq_false (by have := HN.out; omega), List.any_eq_false.2 fun r hr => by have := h r hr; simp; omega⟩)
        clear HK
        go_wp2
        go_ret
        exact ⟨by rw [HE.out]; rfl, rfl⟩

set_option maxHeartbeats 2000000 in
theorem paramCleans_law (A : Option Addr) (l : List (List Int)) (n cp : Nat) (hn : n = l.length) (hcap : n ≤ cp) (w : World) (hT : PT w) (hR : RG w w.heap.size A l) :
    Calls Tryd.prog 4 #[.slice A n cp] w fun e w' => e = .returned (.bool true) ∧ Below w.heap.size w w' := by
  have HA : Hid (∀ W, Below w.heap.size w W → Calls Tryd.prog 8 #[] W fun e w' => e = .returned (.bool true) ∧ Below W.heap.size W w') := Lib.hid fun W hW => awake_any W (hT.below hW)
  have HG := Lib.hid (great_any A l n cp hn w hR)
  cases hg : greatB l with
  | true =>
    rw [hg] at HG
    clear hT hR hg hn
    go_enter Tryd.func4, Tryd.ntmps4
    go_wp2_with (first
      | (go_at_call 12; (with_reducible refine HG.out.mono ?_); rintro e w' ⟨rfl, rfl⟩)
      | (go_at_call 8; (with_reducible refine (HA.out _ (Below.refl _ _)).mono ?_); rintro e w2 ⟨rfl, hb2⟩))
    go_ret
    exact ⟨rfl, hb2⟩
  | false =>
    rw [hg] at HG
    obtain ⟨h60, h20⟩ := great_no hg
    have HC : Hid (∀ W, Below w.heap.size w W → Calls Tryd.prog 13 #[.slice A n cp] W (RowsPost (cleanL l) W)) := Lib.hid fun W hW => clean_any A l n cp hn hcap (by omega) (fun r hr => by have := h20 r hr; omega) W ((hR.below hW).more hW.size)
    have HD : Hid (∀ W, Below w.heap.size w W → Calls Tryd.prog 14 #[.slice A n cp] W (RowsPost (cleanL l) W)) := Lib.hid fun W hW => refClean_any A l n cp hn (by omega) (fun r hr => by have := h20 r hr; omega) W ((hR.below hW).more hW.size)
    have hlen := (cleanL_len l).2
    have HS : Hid (∀ W A A' c c', RG W W.heap.size A (cleanL l) → RG W W.heap.size A' (cleanL l) → Calls Tryd.prog 11 #[.slice A (cleanL l).length c, .slice A' (cleanL l).length c'] W fun e w' => e = .returned (.bool true) ∧ Below W.heap.size W w') := Lib.hid fun W A A' c c' h1 h2 => by
      have := same_any A A' (cleanL l) (cleanL l) _ _ c c' rfl rfl (by omega) (cleanL_row l) W h1 h2
      rw [show sameL (cleanL l) (cleanL l) = true from decide_eq_true rfl] at this
      exact this
    clear hT hR hg hn h60 h20 hlen
    generalize cleanL l = L at *
    go_enter Tryd.func4, Tryd.ntmps4
    go_wp2_with (first
      | (go_at_call 12; (with_reducible refine HG.out.mono ?_); rintro e w' ⟨rfl, rfl⟩)
      | (go_at_call 13; (with_reducible refine (HC.out _ (Below.refl _ _)).mono ?_); rintro e w2 ⟨A2, c2, rfl, _, hr2, hb2⟩; have HR2 := Lib.hid hr2; have HB2 := Lib.hid hb2; clear hr2 hb2)
      | (go_at_call 14; (with_reducible refine (HD.out _ HB2.out).mono ?_); rintro e w3 ⟨A3, c3, rfl, _, hr3, hb3⟩; have HR3 := Lib.hid hr3; have HR23 := Lib.hid (HR2.out.past hb3); have HB3 := Lib.hid (bel0 HB2.out hb3); clear hr3 hb3)
      | (go_at_call 11; (with_reducible refine (HS.out _ _ _ _ _ HR23.out HR3.out).mono ?_); rintro e w4 ⟨rfl, hb4⟩; have HB4 := Lib.hid (bel0 HB3.out hb4); clear hb4)
      | (go_at_call 8; (with_reducible refine (HA.out _ HB4.out).mono ?_); rintro e w5 ⟨rfl, hb5⟩; have HB5 := Lib.hid (bel0 HB4.out hb5); clear hb5))
    go_ret
    exact ⟨rfl, HB5.out⟩

end Go.Proofs.YtjhcjdkbichabaaDoor
