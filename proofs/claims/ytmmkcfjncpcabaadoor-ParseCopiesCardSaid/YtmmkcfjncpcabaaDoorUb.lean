/- The walks of utf.beginning and utf.first. -/
import Derived.Test.YtmmkcfjncpcabaaDoorUa
import Derived.Test.YtmmkcfjncpcabaaDoorSh
namespace Go.Proofs.YtmmkcfjncpcabaaDoor
open Go.RowKit

theorem BS.take {w : World} {B : Nat} {A : Option Addr} {zs : List Nat} (h : BS w B A zs) (m : Nat) : BS w B A (zs.take m) :=
  ⟨fun z hz => h.1 z (List.mem_of_mem_take hz), fun hn => by
    have hx : zs ≠ [] := by rintro rfl; exact hn (by simp)
    obtain ⟨b, off, rfl, hb, hc⟩ := h.2 hx
    refine ⟨b, off, rfl, hb, fun k hk => ?_⟩
    have hk' : k < m ∧ k < zs.length := by simp at hk; omega
    rw [List.getElem?_take, if_pos hk'.1]
    exact hc k hk'.2⟩
theorem firstT_le (b : Nat) : Lib.firstT b % 8 ≤ 4 := by
  rcases Lib.firstT_cases b with h | h | h | h | h | h | h | h | h <;> rw [h] <;> decide
theorem full4 (zs : List Nat) (h : 4 ≤ zs.length) : fullB (zs.take 4) = true := by
  have := firstT_le ((zs.take 4)[0]?.getD 0)
  have hl : (zs.take 4).length = 4 := by simp; omega
  unfold fullB fullN
  rw [hl]
  exact decide_eq_true ⟨by omega, .inl (by omega)⟩
/-- How many bytes the longest beginning has that stands ahead. -/
def begF (zs : List Nat) : Nat :=
  if zs.length ≤ 1 ∨ fullB (zs.take 2) = true then 1 else if zs.length ≤ 2 ∨ fullB (zs.take 3) = true then 2 else if zs.length ≤ 3 ∨ fullB (zs.take 4) = true then 3 else 4
theorem begF_is (zs : List Nat) (N : Nat) (h1 : 1 ≤ N) (hl : ∀ j, 1 ≤ j → j < N → j < zs.length ∧ fullB (zs.take (j + 1)) = false) (hN : zs.length ≤ N ∨ fullB (zs.take (N + 1)) = true) : N = begF zs := by
  have hN3 : N ≤ 3 := by
    rcases Nat.lt_or_ge 3 N with h | h
    · have := hl 3 (by omega) h
      rw [full4 zs (by omega)] at this
      exact absurd this.2 (by decide)
    · exact h
  unfold begF
  rcases (by omega : N = 1 ∨ N = 2 ∨ N = 3) with rfl | rfl | rfl
  · rw [if_pos (by rcases hN with h | h; exact .inl h; exact .inr h)]
  · have a := hl 1 (by omega) (by omega)
    rw [if_neg (by rintro (h | h); omega; rw [a.2] at h; cases h), if_pos (by rcases hN with h | h; exact .inl h; exact .inr h)]
  · have a := hl 1 (by omega) (by omega)
    have b := hl 2 (by omega) (by omega)
    rw [if_neg (by rintro (h | h); omega; rw [a.2] at h; cases h), if_neg (by rintro (h | h); omega; rw [b.2] at h; cases h), if_pos (by rcases hN with h | h; exact .inl h; exact .inr h)]

set_option maxHeartbeats 1000000 in
theorem beginning_any (A : Option Addr) (zs : List Nat) (n c : Nat) (hn : n = zs.length) (hcap : n ≤ c) (h63 : c ≤ 9223372036854775807) (w : World) (hT : UT w) (hR : BS w w.heap.size A zs) :
    Calls Tryd.prog 94 #[.slice A n c] w fun e w' => e = .returned (.int .i64 (begF zs)) ∧ Below w.heap.size w w' := by
  have HF : Hid (∀ W m, m ≤ n → Below w.heap.size w W → Calls Tryd.prog 87 #[.slice A m c] W fun e w' => e = .returned (.bool (fullB (zs.take m))) ∧ Below W.heap.size W w') := Lib.hid fun W m hm hW =>
    full_any A (zs.take m) m c (by simp; omega) (by omega) W (hT.below hW) (((hR.take m).below hW).more hW.size)
  have HN := Lib.hid hn
  clear hn hT hR
  go_enter Tryd.func94, Tryd.ntmps94
  go_wp2
  go_loopw [3] (fun i wr => ∃ k : Nat, 1 ≤ k ∧ k ≤ n + 1 ∧ i = .int .i64 k ∧ Hid (∀ j, 1 ≤ j → j < k → j < zs.length ∧ fullB (zs.take (j + 1)) = false) ∧ Hid (Below w.heap.size w wr)) (fun i _ => n + 1 - (intOf i).toNat)
  case atStart => exact ⟨1, Nat.le_refl _, by omega, rfl, Lib.hid (fun j h1 h2 => by omega), Lib.hid (Below.refl _ _)⟩
  case round =>
    obtain ⟨k, hk1, hkn, rfl, HK, hB⟩ := hrel
    by_cases hlt : k < n
    · have hf := HF.out wr (k + 1) (by omega) hB.out
      have hkc : k + 1 ≤ c := by omega
      have hki : (k : Int) + 1 ≤ c := by omega
      cases hq : fullB (zs.take (k + 1)) with
      | true =>
        have HZ : Hid (k = begF zs) := Lib.hid (begF_is zs k hk1 HK.out (.inr hq))
        rw [hq] at hf
        clear hq HK
        go_wp2_with (go_at_call 87; refine hf.mono ?_; clear hf; rintro e w3 ⟨rfl, hb3⟩; have HB3 : Hid (Below w.heap.size w w3) := Lib.hid (hB.out.trans (hb3.mono hB.out.size)); clear hb3)
        go_ret
        exact ⟨by rw [← HZ.out]; rfl, HB3.out⟩
      | false =>
        have HK' : Hid (∀ j, 1 ≤ j → j < k + 1 → j < zs.length ∧ fullB (zs.take (j + 1)) = false) := Lib.hid fun j h1 h2 => by
          rcases Nat.lt_or_ge j k with h | h
          · exact HK.out j h1 h
          · obtain rfl : j = k := by omega
            exact ⟨by rw [← HN.out]; exact hlt, hq⟩
        rw [hq] at hf
        clear hq HK
        go_wp2_with (go_at_call 87; refine hf.mono ?_; clear hf; rintro e w3 ⟨rfl, hb3⟩; have HB3 : Hid (Below w.heap.size w w3) := Lib.hid (hB.out.trans (hb3.mono hB.out.size)); clear hb3)
        go_roundw
        case rel => exact ⟨k + 1, by omega, by omega, by go_num, HK', HB3⟩
        case measure => simp [intOf]; omega
    · have HZ : Hid (k = begF zs) := Lib.hid (begF_is zs k hk1 HK.out (.inl (by rw [← HN.out]; omega)))
      clear HK
      go_wp2
      go_ret
      exact ⟨by rw [← HZ.out]; rfl, hB.out⟩

end Go.Proofs.YtmmkcfjncpcabaaDoor
