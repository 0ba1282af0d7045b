/- The walks of the reference's All and Waits. -/
import Derived.Test.YtdhmpnjodcjjpaaDoorUw
namespace Go.Proofs.YtdhmpnjodcjjpaaDoor
open Go.RowKit Go.Shelf

theorem ownsRow_belowR {w w' : World} {base : Nat} {v : Value} {n : Nat} {xs : List Value} (h : w.ownsRow base 21 1 v n xs) (hb : Below w.heap.size w w') : w'.ownsRow base 21 1 v n xs := ownsRow_below' h hb

set_option maxRecDepth 100000 in
set_option maxHeartbeats 4000000 in
theorem refAll_any (b off : Nat) (zs : List Nat) (n c : Nat) (hn : n = zs.length) (hlen : n ≤ 100000) (hcap : n ≤ c) (h63 : c ≤ 9223372036854775807) (w : World) (hR : BS w w.heap.size (some ⟨b, off, none⟩) zs) :
    Calls Tryd.prog 13 #[.slice (some ⟨b, off, none⟩) n c] w (AllPost zs w) := by
  obtain ⟨i0, hi, hz0, hz1, hz2⟩ := info_parts Tryd.infoRune
  have H8 : Hid (∀ z ∈ zs, z < 256) := Lib.hid hR.1
  have HR := Lib.hid hR
  have HN := Lib.hid hn
  clear hR hn
  go_enter Tryd.func13, Tryd.ntmps13
  go_wp2
  go_loopw [0, 3] (fun v o wr => ∃ (k o' : Nat) (pre : List Nat) (vo : Value), vo = o ∧ k ≤ n ∧ pre.length ≤ k ∧ Hid (k < n → o' = off + k) ∧ v = .slice (some ⟨b, o', none⟩) (n - k) (c - k) ∧ Hid (allL zs = pre ++ allL (zs.drop k)) ∧ Hid (wr.ownsRow w.heap.size 21 1 vo pre.length (pre.map encN)) ∧ Hid (Below w.heap.size w wr))
    (fun v _ _ => match v with | .slice _ q _ => q | _ => 0)
  case atStart => exact ⟨0, off, [], _, rfl, by omega, by simp, Lib.hid (fun _ => rfl), rfl, Lib.hid rfl, Lib.hid (World.ownsRow_nil _ _ _ _), Lib.hid (Below.refl _ _)⟩
  case round =>
    obtain ⟨k, o', pre, vo, rfl, hkn, hpk, HO, rfl, HK, HW, HB⟩ := hrel
    by_cases hlt : k < n
    · have hl : n - k = (zs.drop k).length := by rw [List.length_drop, ← HN.out]
      have hne : zs.drop k ≠ [] := by intro e; rw [e] at hl; simp at hl; omega
      have hBr : BS wr wr.heap.size (some ⟨b, o', none⟩) (zs.drop k) := ((HR.out.below HB.out).drop k o' (fun h => HO.out (by rw [HN.out]; exact h))).more HB.out.size
      have h1 := one_any b o' (zs.drop k) (n - k) (c - k) hl (by omega) (by omega) wr hBr
      obtain ⟨hm1, hm4, hmn⟩ := firstF_bd (zs.drop k) (List.length_pos_iff.2 hne)
      rw [← hl] at hmn
      have HZ : Hid (allL zs = (pre ++ [(firstF (zs.drop k)).1]) ++ allL (zs.drop (k + (firstF (zs.drop k)).2))) := Lib.hid (by
        rw [HK.out, all_step (zs.drop k) (fun z hz => H8.out z (List.mem_of_mem_drop hz)) hne, List.drop_drop, List.append_assoc]; rfl)
      unfold OnePost at h1
      clear hl hne hBr HK
      generalize (firstF (zs.drop k)).1 = r at *
      generalize (firstF (zs.drop k)).2 = fm at *
      have hp1 : pre.length + 1 ≤ maxLen := by unfold maxLen; omega
      have hp2 : (pre.length + 1) * 4 ≤ 140737488355328 := by omega
      have hpos : 0 < n - k := by omega
      have hmi : (fm : Int) ≤ (n - k : Nat) := by omega
      have hmc : fm ≤ c - k := by omega
      have HBS : Hid (∀ (W : World) (o : Obj), Below w.heap.size w W → w.heap.size ≤ (W.alloc o).heap.size) := Lib.hid fun W o hW => by have := hW.size; simp; omega
      by_cases hcm : c - k = fm
      · have hO' : Hid (k + fm < n → o' = off + (k + fm)) := Lib.hid fun h => by omega
        subst hcm
        go_wp2_with (first
          | (go_at_call 25; (with_reducible refine h1.mono ?_); clear h1; rintro e w8 ⟨rfl, hb8⟩; have HB8 := Lib.hid (bel0 HB.out hb8); have HW8 := Lib.hid (ownsRow_belowR HW.out hb8); clear hb8)
          | (at_builtin; go_must (refine wpList_append_own _ rfl _ _ 25 rfl w.heap.size 21 i0 (.int .i32 0) 1 4 Tryd.underlying25 hi hz0 hz1 hz2 rfl (by decide) _ _ _ rfl (HW8.out.alloc _) ⟨w8.heap.size, 0, none⟩ 1 1 [.int .i32 (r : Nat)] rfl rfl (cell_one_new _ _ _) (by simp [Value.oneCell']) hp1 hp2 (HBS.out _ _ HB8.out) ?_; intro v' w9 hown' hgrow _; have hB9 : Hid (Below w.heap.size w w9) := Lib.hid ((HB8.out.alloc HB8.out.size _).grown hgrow (HBS.out _ _ HB8.out) (fun k e => (HW8.out.lt k e).1)); have HW9 := Lib.hid hown'; clear hgrow hown')))
        go_roundw
        case rel => exact ⟨k + (c - k), o', pre ++ [r], _, rfl, by omega, by simp; omega, hO', by rw [Nat.sub_add_eq, Nat.sub_add_eq, show c - k - (c - k) = 0 by omega], HZ, Lib.hid (by rw [List.length_append, List.map_append]; exact HW9.out), hB9⟩
        case measure => show n - k - (c - k) < n - k; omega
      · have hO' : Hid (k + fm < n → o' + fm = off + (k + fm)) := Lib.hid fun h => by rw [HO.out (by omega), Nat.add_assoc]
        go_wp2_with (first
          | (go_at_call 25; (with_reducible refine h1.mono ?_); clear h1; rintro e w8 ⟨rfl, hb8⟩; have HB8 := Lib.hid (bel0 HB.out hb8); have HW8 := Lib.hid (ownsRow_belowR HW.out hb8); clear hb8)
          | (at_builtin; go_must (refine wpList_append_own _ rfl _ _ 25 rfl w.heap.size 21 i0 (.int .i32 0) 1 4 Tryd.underlying25 hi hz0 hz1 hz2 rfl (by decide) _ _ _ rfl (HW8.out.alloc _) ⟨w8.heap.size, 0, none⟩ 1 1 [.int .i32 (r : Nat)] rfl rfl (cell_one_new _ _ _) (by simp [Value.oneCell']) hp1 hp2 (HBS.out _ _ HB8.out) ?_; intro v' w9 hown' hgrow _; have hB9 : Hid (Below w.heap.size w w9) := Lib.hid ((HB8.out.alloc HB8.out.size _).grown hgrow (HBS.out _ _ HB8.out) (fun k e => (HW8.out.lt k e).1)); have HW9 := Lib.hid hown'; clear hgrow hown')))
        go_roundw
        case rel => exact ⟨k + fm, o' + fm, pre ++ [r], _, rfl, by omega, by simp; omega, hO', by rw [Nat.sub_add_eq, Nat.sub_add_eq], HZ, Lib.hid (by rw [List.length_append, List.map_append]; exact HW9.out), hB9⟩
        case measure => show n - k - fm < n - k; omega
    · have HZ : Hid (allL zs = pre) := Lib.hid (by rw [HK.out, List.drop_of_length_le (by rw [← HN.out]; omega), allL_nil, List.append_nil])
      have hz : n - k = 0 := by omega
      rw [hz]
      go_wp2
      go_ret
      exact ⟨vo, rfl, by rw [HZ.out]; exact HW.out, HB.out⟩

theorem refAll_none (A : Option Addr) (c : Nat) (w : World) : Calls Tryd.prog 13 #[.slice A 0 c] w (AllPost [] w) := by
  go_enter Tryd.func13, Tryd.ntmps13
  go_wp2
  go_loopw [0, 3] (fun v o wr => v = .slice A 0 c ∧ o = .slice none 0 0 ∧ wr = w) (fun _ _ _ => 0)
  case atStart => exact ⟨rfl, rfl, rfl⟩
  case round =>
    obtain ⟨rfl, rfl, rfl⟩ := hrel
    go_wp2
    go_ret
    exact ⟨_, rfl, World.ownsRow_nil _ _ _ _, Below.refl _ _⟩
theorem refAll_all (A : Option Addr) (zs : List Nat) (n c : Nat) (hn : n = zs.length) (hlen : n ≤ 100000) (hcap : n ≤ c) (h63 : c ≤ 9223372036854775807) (w : World) (hR : BS w w.heap.size A zs) :
    Calls Tryd.prog 13 #[.slice A n c] w (AllPost zs w) := by
  by_cases hz : zs = []
  · subst hz
    simp at hn
    subst hn
    exact refAll_none A c w
  · obtain ⟨b, off, rfl, _, _⟩ := hR.2 hz
    exact refAll_any b off zs n c hn hlen hcap h63 w hR

theorem begins_4 (b off n c : Nat) (h4 : 4 ≤ n) (h63 : n ≤ 100000) (w : World) :
    Calls Tryd.prog 18 #[.slice (some ⟨b, off, none⟩) n c] w fun e w' => e = .returned (.bool false) ∧ Below w.heap.size w w' := by
  have hd : decide ((n : Int) + 1 ≤ 4) = false := decide_eq_false (by omega)
  have hn : ¬ ((n : Int) + 1 ≤ 4) := by omega
  go_enter Tryd.func18, Tryd.ntmps18
  go_wp2
  go_loopw [3] (fun i wr => i = .int .i64 ((n : Int) + 1) ∧ wr = w) (fun _ _ => 0)
  case atStart => exact ⟨rfl, rfl⟩
  case round =>
    obtain ⟨rfl, rfl⟩ := hrel
    go_wp2
    go_ret
    exact ⟨rfl, Below.refl _ _⟩
theorem begins_all (b off : Nat) (zs : List Nat) (n c : Nat) (hn : n = zs.length) (h0 : 0 < n) (hlen : n ≤ 100000) (w : World) (hR : BS w w.heap.size (some ⟨b, off, none⟩) zs) :
    Calls Tryd.prog 18 #[.slice (some ⟨b, off, none⟩) n c] w fun e w' => e = .returned (.bool (!fullB zs)) ∧ Below w.heap.size w w' := by
  have hz : zs ≠ [] := by rintro rfl; simp at hn; omega
  by_cases h3 : n ≤ 3
  · rw [← beg_full zs hR.1 hz]
    exact begins_any b off zs n c hn h0 h3 w hR
  · have hf : fullB zs = true := by
      cases hq : fullB zs with
      | true => rfl
      | false => have := full_four zs hR.1 hq; omega
    rw [hf]
    exact begins_4 b off n c (by omega) hlen w

theorem waits_none (A : Option Addr) (c : Nat) (w : World) : Calls Tryd.prog 21 #[.slice A 0 c] w fun e w' => e = .returned (.int .i64 0) ∧ Below w.heap.size w w' := by
  go_enter Tryd.func21, Tryd.ntmps21
  go_wp2
  go_loopw [0] (fun v wr => v = .slice A 0 c ∧ wr = w) (fun _ _ => 0)
  case atStart => exact ⟨rfl, rfl⟩
  case round =>
    obtain ⟨rfl, rfl⟩ := hrel
    go_wp2
    go_ret
    exact ⟨rfl, Below.refl _ _⟩

set_option maxRecDepth 100000 in
set_option maxHeartbeats 4000000 in
theorem waits_any (b off : Nat) (zs : List Nat) (n c : Nat) (hn : n = zs.length) (hlen : n ≤ 100000) (hcap : n ≤ c) (w : World) (hR : BS w w.heap.size (some ⟨b, off, none⟩) zs) :
    Calls Tryd.prog 21 #[.slice (some ⟨b, off, none⟩) n c] w fun e w' => e = .returned (.int .i64 (waitL zs)) ∧ Below w.heap.size w w' := by
  have H8 : Hid (∀ z ∈ zs, z < 256) := Lib.hid hR.1
  have HR := Lib.hid hR
  have HN := Lib.hid hn
  clear hR hn
  go_enter Tryd.func21, Tryd.ntmps21
  go_wp2
  go_loopw [0] (fun v wr => ∃ (k o' : Nat), k ≤ n ∧ Hid (k < n → o' = off + k) ∧ v = .slice (some ⟨b, o', none⟩) (n - k) (c - k) ∧ Hid (waitL zs = waitL (zs.drop k)) ∧ Hid (Below w.heap.size w wr))
    (fun v _ => match v with | .slice _ q _ => q | _ => 0)
  case atStart => exact ⟨0, off, by omega, Lib.hid (fun _ => rfl), rfl, Lib.hid rfl, Lib.hid (Below.refl _ _)⟩
  case round =>
    obtain ⟨k, o', hkn, HO, rfl, HK, HB⟩ := hrel
    by_cases hlt : k < n
    · have hl : n - k = (zs.drop k).length := by rw [List.length_drop, ← HN.out]
      have hne : zs.drop k ≠ [] := by intro e; rw [e] at hl; simp at hl; omega
      have h8 : ∀ z ∈ zs.drop k, z < 256 := fun z hz => H8.out z (List.mem_of_mem_drop hz)
      have hBr : BS wr wr.heap.size (some ⟨b, o', none⟩) (zs.drop k) := ((HR.out.below HB.out).drop k o' (fun h => HO.out (by rw [HN.out]; exact h))).more HB.out.size
      have h1 := one_any b o' (zs.drop k) (n - k) (c - k) hl (by omega) (by omega) wr hBr
      have H2 : Hid (∀ W, Below wr.heap.size wr W → Calls Tryd.prog 18 #[.slice (some ⟨b, o', none⟩) (n - k) (c - k)] W fun e w' => e = .returned (.bool (!fullB (zs.drop k))) ∧ Below W.heap.size W w') := Lib.hid fun W hW =>
        begins_all b o' (zs.drop k) (n - k) (c - k) hl (by omega) (by omega) W ((hBr.below hW).more hW.size)
      obtain ⟨hm1, hm4, hmn⟩ := firstF_bd (zs.drop k) (List.length_pos_iff.2 hne)
      rw [← hl] at hmn
      have hpos : 0 < n - k := by omega
      unfold OnePost at h1
      cases hf : fullB (zs.drop k) with
      | false =>
        have HZ : Hid (waitL zs = n - k) := Lib.hid (by rw [HK.out, wait_no _ hf, hl])
        have e2 : (firstF (zs.drop k)).2 = n - k := by rw [first_wait _ h8 hne hf, hl]
        rw [e2] at h1
        rw [hf, show (!false) = true from rfl] at H2
        clear hl hne h8 hBr HK hf e2 hm1 hm4 hmn
        generalize (firstF (zs.drop k)).1 = r at *
        go_wp2_with (first
          | (go_at_call 25; (with_reducible refine h1.mono ?_); clear h1; rintro e w8 ⟨rfl, hb8⟩; have HB8 := Lib.hid (bel0 HB.out hb8))
          | (go_at_call 18; (with_reducible refine (H2.out _ hb8).mono ?_); rintro e w9 ⟨rfl, hb9⟩))
        go_ret
        exact ⟨by rw [HZ.out]; rfl, bel0 HB8.out hb9⟩
      | true =>
        have HZ : Hid (waitL zs = waitL (zs.drop (k + (firstF (zs.drop k)).2))) := Lib.hid (by rw [HK.out, wait_yes _ hf, List.drop_drop])
        rw [hf, show (!true) = false from rfl] at H2
        clear hl hne h8 hBr HK hf
        generalize (firstF (zs.drop k)).1 = r at *
        generalize (firstF (zs.drop k)).2 = fm at *
        have hmi : (fm : Int) ≤ (n - k : Nat) := by omega
        have hmc : fm ≤ c - k := by omega
        by_cases hq : fm = n - k
        · subst hq
          by_cases hcm : c - k = n - k
          · have hO' : Hid (k + (n - k) < n → o' = off + (k + (n - k))) := Lib.hid fun h => by omega
            rw [hcm] at h1 H2 hmc
            rw [hcm]
            have HCM := Lib.hid hcm
            clear hcm
            go_wp2_with (first
              | (go_at_call 25; (with_reducible refine h1.mono ?_); clear h1; rintro e w8 ⟨rfl, hb8⟩; have HB8 := Lib.hid (bel0 HB.out hb8))
              | (go_at_call 18; (with_reducible refine (H2.out _ hb8).mono ?_); rintro e w9 ⟨rfl, hb9⟩))
            go_roundw
            case rel => exact ⟨k + (n - k), o', by omega, hO', by rw [show n - (k + (n - k)) = 0 by omega, show c - (k + (n - k)) = 0 by have := HCM.out; omega], HZ, Lib.hid (bel0 HB8.out hb9)⟩
            case measure => show 0 < n - k; omega
          · have hO' : Hid (k + (n - k) < n → o' + (n - k) = off + (k + (n - k))) := Lib.hid fun h => by rw [HO.out (by omega), Nat.add_assoc]
            go_wp2_with (first
              | (go_at_call 25; (with_reducible refine h1.mono ?_); clear h1; rintro e w8 ⟨rfl, hb8⟩; have HB8 := Lib.hid (bel0 HB.out hb8))
              | (go_at_call 18; (with_reducible refine (H2.out _ hb8).mono ?_); rintro e w9 ⟨rfl, hb9⟩))
            go_roundw
            case rel => exact ⟨k + (n - k), o' + (n - k), by omega, hO', by rw [show n - (k + (n - k)) = 0 by omega, Nat.sub_add_eq], HZ, Lib.hid (bel0 HB8.out hb9)⟩
            case measure => show 0 < n - k; omega
        · have hqb : ((fm : Int) == ((n - k : Nat) : Int)) = false := by simp; omega
          have hcm : ¬ c - k = fm := by omega
          have hO' : Hid (k + fm < n → o' + fm = off + (k + fm)) := Lib.hid fun h => by rw [HO.out (by omega), Nat.add_assoc]
          clear hq
          go_wp2_with (go_at_call 25; (with_reducible refine h1.mono ?_); clear h1; rintro e w8 ⟨rfl, hb8⟩; have HB8 := Lib.hid (bel0 HB.out hb8))
          go_roundw
          case rel => exact ⟨k + fm, o' + fm, by omega, hO', by rw [Nat.sub_add_eq, Nat.sub_add_eq], HZ, HB8⟩
          case measure => show n - k - fm < n - k; omega
    · have HZ : Hid (waitL zs = 0) := Lib.hid (by rw [HK.out, List.drop_of_length_le (by rw [← HN.out]; omega)]; rfl)
      have hz : n - k = 0 := by omega
      rw [hz]
      go_wp2
      go_ret
      exact ⟨by rw [HZ.out]; rfl, HB.out⟩
theorem waits_all (A : Option Addr) (zs : List Nat) (n c : Nat) (hn : n = zs.length) (hlen : n ≤ 100000) (hcap : n ≤ c) (w : World) (hR : BS w w.heap.size A zs) :
    Calls Tryd.prog 21 #[.slice A n c] w fun e w' => e = .returned (.int .i64 (waitL zs)) ∧ Below w.heap.size w w' := by
  by_cases hz : zs = []
  · subst hz
    simp at hn
    subst hn
    exact waits_none A c w
  · obtain ⟨b, off, rfl, _, _⟩ := hR.2 hz
    exact waits_any b off zs n c hn hlen hcap w hR

end Go.Proofs.YtdhmpnjodcjjpaaDoor
