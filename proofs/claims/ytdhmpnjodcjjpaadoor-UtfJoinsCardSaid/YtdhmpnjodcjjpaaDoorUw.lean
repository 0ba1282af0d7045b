/- The walk of the reference's One: what stands at the beginning of bytes. -/
import Derived.Test.YtdhmpnjodcjjpaaDoorUv
namespace Go.Proofs.YtdhmpnjodcjjpaaDoor
open Go.RowKit Go.Shelf

theorem size_yes {zs : List Nat} {m : Nat} (h1 : 1 ≤ m) (h3 : m ≤ 3) (hl : m ≤ zs.length) (h : fullB (zs.take m) = false) : sizeF zs m = m := by
  rcases (by omega : m = 1 ∨ m = 2 ∨ m = 3) with rfl | rfl | rfl
  · simp [sizeF]
  · simp [sizeF, h, hl]
  · simp [sizeF, h, hl]
theorem size_no {zs : List Nat} {m : Nat} (h3 : m ≤ 2) (h : fullB (zs.take (m + 1)) = true) : sizeF zs (m + 1) = sizeF zs m := by
  rcases (by omega : m = 0 ∨ m = 1 ∨ m = 2) with rfl | rfl | rfl
  · simp [sizeF]
  · simp [sizeF, h]
  · simp [sizeF, h]
theorem size_end {zs : List Nat} {m : Nat} (h : 3 ≤ m ∨ zs.length ≤ m) : sizeF zs m = begF zs := by
  rw [← size_beg]
  unfold sizeF
  have e3 : (3 ≤ m ∧ 3 ≤ zs.length ∧ fullB (zs.take 3) = false) ↔ (3 ≤ 3 ∧ 3 ≤ zs.length ∧ fullB (zs.take 3) = false) := by
    constructor <;> (rintro ⟨a, b, c⟩; exact ⟨by omega, b, c⟩)
  have e2 : (2 ≤ m ∧ 2 ≤ zs.length ∧ fullB (zs.take 2) = false) ↔ (2 ≤ 3 ∧ 2 ≤ zs.length ∧ fullB (zs.take 2) = false) := by
    constructor <;> (rintro ⟨a, b, c⟩; exact ⟨by omega, b, c⟩)
  simp only [e3, e2]
theorem size_0 (zs : List Nat) : sizeF zs 0 = 1 := by simp [sizeF]

def OnePost (zs : List Nat) (w : World) (e : Ending) (w' : World) : Prop :=
  e = .returned (.tuple #[.int .i32 (firstF zs).1, .int .i64 (firstF zs).2]) ∧ Below w.heap.size w w'

set_option maxRecDepth 100000 in
set_option maxHeartbeats 4000000 in
theorem one_any (b off : Nat) (zs : List Nat) (n c : Nat) (hn : n = zs.length) (h0 : 0 < n) (hcap : n ≤ c) (w : World) (hR : BS w w.heap.size (some ⟨b, off, none⟩) zs) :
    Calls Tryd.prog 25 #[.slice (some ⟨b, off, none⟩) n c] w (OnePost zs w) := by
  have hne : zs ≠ [] := by rintro rfl; simp at hn; omega
  have HIs : Hid (∀ (m : Nat) (W : World), m ≤ n → Below w.heap.size w W → Calls Tryd.prog 17 #[.slice (some ⟨b, off, none⟩) m c] W fun e w' => e = .returned (.bool (isB (zs.take m))) ∧ Below W.heap.size W w') := Lib.hid fun m W hm hW =>
    is_any _ (zs.take m) m c (by rw [List.length_take]; omega) W (((hR.take m).below hW).more hW.size)
  have HNum : Hid (∀ (m : Nat) (W : World), m ≤ n → Below w.heap.size w W → Calls Tryd.prog 27 #[.slice (some ⟨b, off, none⟩) m c] W fun e w' => e = .returned (.int .i32 (numZ (zs.take m))) ∧ Below W.heap.size W w') := Lib.hid fun m W hm hW =>
    number_any _ (zs.take m) m c (by rw [List.length_take]; omega) W (((hR.take m).below hW).more hW.size)
  have HBeg : Hid (∀ (m : Nat) (W : World), 1 ≤ m → m ≤ 3 → m ≤ n → Below w.heap.size w W → Calls Tryd.prog 18 #[.slice (some ⟨b, off, none⟩) m c] W fun e w' => e = .returned (.bool (!fullB (zs.take m))) ∧ Below W.heap.size W w') := Lib.hid fun m W h1 h3 hm hW => by
    have h8 : ∀ z ∈ zs.take m, z < 256 := fun z hz => hR.1 z (List.mem_of_mem_take hz)
    have hl : m = (zs.take m).length := by rw [List.length_take]; omega
    have hz : zs.take m ≠ [] := by intro e; rw [e] at hl; simp at hl; omega
    rw [← beg_full _ h8 hz]
    exact begins_any b off (zs.take m) m c hl (by omega) h3 W (((hR.take m).below hW).more hW.size)
  have H8 : Hid (∀ z ∈ zs, z < 256) := Lib.hid hR.1
  have HN := Lib.hid hn
  have HNE := Lib.hid hne
  clear hR hn hne
  unfold OnePost
  go_enter Tryd.func25, Tryd.ntmps25
  go_wp2
  go_loopw [4] (fun i wr => ∃ m : Nat, 1 ≤ m ∧ m ≤ 5 ∧ i = .int .i64 m ∧ Hid (∀ j, 1 ≤ j → j < m → j ≤ n → isB (zs.take j) = false) ∧ Hid (Below w.heap.size w wr)) (fun i _ => 5 - (intOf i).toNat)
  case atStart => exact ⟨1, by omega, by omega, rfl, Lib.hid (fun j h1 h2 => by omega), Lib.hid (Below.refl _ _)⟩
  case round =>
    obtain ⟨m, hm1, hm5, rfl, HK, HB⟩ := hrel
    by_cases hc : m ≤ 4 ∧ m ≤ n
    · obtain ⟨hm4, hmn⟩ := hc
      have hi := HIs.out m wr hmn HB.out
      have hm4' : (m : Int) ≤ 4 := by omega
      have hmn' : (m : Int) ≤ n := by omega
      have hmc' : (m : Int) ≤ c := by omega
      have hmc : m ≤ c := by omega
      cases hq : isB (zs.take m) with
      | true =>
        have HF : Hid (firstF zs = ((numZ (zs.take m)).toNat, m)) := Lib.hid (first_is zs m (by rw [← HN.out]; exact hmn) hq)
        have HZ : Hid (((numZ (zs.take m)).toNat : Int) = numZ (zs.take m)) := Lib.hid (Int.toNat_of_nonneg (scalarB_bd (is_some hq).1).1)
        have HM := Lib.hid (fun W hW => HNum.out m W hmn hW)
        rw [hq] at hi
        clear hq
        generalize numZ (zs.take m) = z at *
        go_wp2_with (first | (go_at_call 17; (with_reducible refine hi.mono ?_); clear hi; rintro e w8 ⟨rfl, hb8⟩; have HB8 := Lib.hid (bel0 HB.out hb8)) | (go_at_call 27; (with_reducible refine (HM.out _ HB8.out).mono ?_); rintro e w9 ⟨rfl, hb9⟩))
        go_ret2
        refine ⟨?_, bel0 HB8.out hb9⟩
        rw [HF.out]
        dsimp only
        rw [HZ.out]
        rfl
      | false =>
        have HK' : Hid (∀ j, 1 ≤ j → j < m + 1 → j ≤ n → isB (zs.take j) = false) := Lib.hid fun j h1 h2 h3 => by
          rcases Nat.lt_or_ge j m with h | h
          · exact HK.out j h1 h h3
          · obtain rfl : j = m := by omega
            exact hq
        rw [hq] at hi
        clear hq
        go_wp2_with (go_at_call 17; (with_reducible refine hi.mono ?_); clear hi; rintro e w8 ⟨rfl, hb8⟩; have HB8 := Lib.hid (bel0 HB.out hb8))
        go_roundw
        case rel => exact ⟨m + 1, by omega, by omega, by go_num, HK', HB8⟩
        case measure => simp [intOf]; omega
    · have HF : Hid (firstF zs = (65533, begF zs)) := Lib.hid (first_not zs H8.out HNE.out fun j h1 h2 h3 => HK.out j h1 (by rw [← HN.out] at h3; omega) (by rw [HN.out]; exact h3))
      clear HK HIs HNum
      rcases (by omega : 4 < m ∨ (m ≤ 4 ∧ n < m)) with h4 | ⟨h4, h5⟩
      · have h4' : ¬ (m : Int) ≤ 4 := by omega
        have hd4 : decide ((m : Int) ≤ 4) = false := decide_eq_false h4'
        clear hc
        obtain ⟨wo, rfl⟩ : ∃ wo : World, wo = wr := ⟨_, rfl⟩
        go_wp2
        go_loopw [5, 6] (fun s i wr => ∃ (q z : Nat), 1 ≤ q ∧ q ≤ 4 ∧ i = .int .i64 q ∧ s = .int .i64 z ∧ Hid (z = sizeF zs (q - 1)) ∧ Hid (Below w.heap.size w wr)) (fun _ i _ => 5 - (intOf i).toNat)
        case atStart => exact ⟨1, 1, by omega, by omega, rfl, rfl, Lib.hid (size_0 zs).symm, HB⟩
        case round =>
          obtain ⟨q, z, hq1, hq4, rfl, rfl, HZ, HBW⟩ := hrel
          rcases (by omega : (q ≤ 3 ∧ q ≤ n) ∨ 3 < q ∨ (q ≤ 3 ∧ n < q)) with ⟨hq3, hqn⟩ | h3 | ⟨hq3, hqn⟩
          · have hi := HBeg.out q wr hq1 hq3 hqn HBW.out
            have hm4' : (q : Int) ≤ 3 := by omega
            have hmn' : (q : Int) ≤ n := by omega
            have hmc' : (q : Int) ≤ c := by omega
            have hmc : q ≤ c := by omega
            cases hf : fullB (zs.take q) with
            | false =>
              have HS : Hid (q = sizeF zs (q + 1 - 1)) := Lib.hid (by rw [Nat.add_sub_cancel]; exact (size_yes hq1 hq3 (by rw [← HN.out]; exact hqn) hf).symm)
              rw [hf] at hi
              clear hf
              rw [show (!false) = true from rfl] at hi
              go_wp2_with (go_at_call 18; (with_reducible refine hi.mono ?_); clear hi; rintro e w8 ⟨rfl, hb8⟩; have HB8 := Lib.hid (bel0 HBW.out hb8))
              go_roundw
              case rel => exact ⟨q + 1, q, by omega, by omega, by go_num, rfl, HS, HB8⟩
              case measure => simp [intOf]; omega
            | true =>
              have HS : Hid (z = sizeF zs (q + 1 - 1)) := Lib.hid (by
                rw [HZ.out, Nat.add_sub_cancel]
                have := size_no (zs := zs) (m := q - 1) (by omega) (by rw [show q - 1 + 1 = q by omega]; exact hf)
                rw [show q - 1 + 1 = q by omega] at this
                exact this.symm)
              rw [hf] at hi
              clear hf
              rw [show (!true) = false from rfl] at hi
              go_wp2_with (go_at_call 18; (with_reducible refine hi.mono ?_); clear hi; rintro e w8 ⟨rfl, hb8⟩; have HB8 := Lib.hid (bel0 HBW.out hb8))
              go_roundw
              case rel => exact ⟨q + 1, z, by omega, by omega, by go_num, rfl, HS, HB8⟩
              case measure => simp [intOf]; omega
          · have HE : Hid (z = begF zs) := Lib.hid (HZ.out.trans (size_end (.inl (by omega))))
            have hd : decide ((q : Int) ≤ 3) = false := decide_eq_false (by omega)
            have h3' : ¬ (q : Int) ≤ 3 := by omega
            go_wp2
            go_ret2
            exact ⟨by rw [HF.out, ← HE.out]; rfl, HBW.out⟩
          · have HE : Hid (z = begF zs) := Lib.hid (HZ.out.trans (size_end (.inr (by rw [← HN.out]; omega))))
            have hd : decide ((q : Int) ≤ 3) = true := decide_eq_true (by omega)
            have hd' : decide ((q : Int) ≤ n) = false := decide_eq_false (by omega)
            have h3' : ¬ (q : Int) ≤ n := by omega
            go_wp2
            go_ret2
            exact ⟨by rw [HF.out, ← HE.out]; rfl, HBW.out⟩
      · have h4' : (m : Int) ≤ 4 := by omega
        have h5' : ¬ (m : Int) ≤ n := by omega
        have hd5 : decide ((m : Int) ≤ n) = false := decide_eq_false h5'
        clear hc
        obtain ⟨wo, rfl⟩ : ∃ wo : World, wo = wr := ⟨_, rfl⟩
        go_wp2
        go_loopw [5, 6] (fun s i wr => ∃ (q z : Nat), 1 ≤ q ∧ q ≤ 4 ∧ i = .int .i64 q ∧ s = .int .i64 z ∧ Hid (z = sizeF zs (q - 1)) ∧ Hid (Below w.heap.size w wr)) (fun _ i _ => 5 - (intOf i).toNat)
        case atStart => exact ⟨1, 1, by omega, by omega, rfl, rfl, Lib.hid (size_0 zs).symm, HB⟩
        case round =>
          obtain ⟨q, z, hq1, hq4, rfl, rfl, HZ, HBW⟩ := hrel
          rcases (by omega : (q ≤ 3 ∧ q ≤ n) ∨ 3 < q ∨ (q ≤ 3 ∧ n < q)) with ⟨hq3, hqn⟩ | h3 | ⟨hq3, hqn⟩
          · have hi := HBeg.out q wr hq1 hq3 hqn HBW.out
            have hm4' : (q : Int) ≤ 3 := by omega
            have hmn' : (q : Int) ≤ n := by omega
            have hmc' : (q : Int) ≤ c := by omega
            have hmc : q ≤ c := by omega
            cases hf : fullB (zs.take q) with
            | false =>
              have HS : Hid (q = sizeF zs (q + 1 - 1)) := Lib.hid (by rw [Nat.add_sub_cancel]; exact (size_yes hq1 hq3 (by rw [← HN.out]; exact hqn) hf).symm)
              rw [hf] at hi
              clear hf
              rw [show (!false) = true from rfl] at hi
              go_wp2_with (go_at_call 18; (with_reducible refine hi.mono ?_); clear hi; rintro e w8 ⟨rfl, hb8⟩; have HB8 := Lib.hid (bel0 HBW.out hb8))
              go_roundw
              case rel => exact ⟨q + 1, q, by omega, by omega, by go_num, rfl, HS, HB8⟩
              case measure => simp [intOf]; omega
            | true =>
              have HS : Hid (z = sizeF zs (q + 1 - 1)) := Lib.hid (by
                rw [HZ.out, Nat.add_sub_cancel]
                have := size_no (zs := zs) (m := q - 1) (by omega) (by rw [show q - 1 + 1 = q by omega]; exact hf)
                rw [show q - 1 + 1 = q by omega] at this
                exact this.symm)
              rw [hf] at hi
              clear hf
              rw [show (!true) = false from rfl] at hi
              go_wp2_with (go_at_call 18; (with_reducible refine hi.mono ?_); clear hi; rintro e w8 ⟨rfl, hb8⟩; have HB8 := Lib.hid (bel0 HBW.out hb8))
              go_roundw
              case rel => exact ⟨q + 1, z, by omega, by omega, by go_num, rfl, HS, HB8⟩
              case measure => simp [intOf]; omega
          · have HE : Hid (z = begF zs) := Lib.hid (HZ.out.trans (size_end (.inl (by omega))))
            have hd : decide ((q : Int) ≤ 3) = false := decide_eq_false (by omega)
            have h3' : ¬ (q : Int) ≤ 3 := by omega
            go_wp2
            go_ret2
            exact ⟨by rw [HF.out, ← HE.out]; rfl, HBW.out⟩
          · have HE : Hid (z = begF zs) := Lib.hid (HZ.out.trans (size_end (.inr (by rw [← HN.out]; omega))))
            have hd : decide ((q : Int) ≤ 3) = true := decide_eq_true (by omega)
            have hd' : decide ((q : Int) ≤ n) = false := decide_eq_false (by omega)
            have h3' : ¬ (q : Int) ≤ n := by omega
            go_wp2
            go_ret2
            exact ⟨by rw [HF.out, ← HE.out]; rfl, HBW.out⟩

end Go.Proofs.YtdhmpnjodcjjpaaDoor
