/- Package reply: the walks of side, counted, numbers, the document's Near. -/
import Derived.Test.YtlolbfbkoimjkaaDoorQd
namespace Go.Proofs.YtlolbfbkoimjkaaDoor
open Go.RowKit

def sideZ (n : Int) : Int := min (max n 0) 1000
theorem sideZ_bd (n : Int) : 0 ≤ sideZ n ∧ sideZ n ≤ 1000 := by unfold sideZ; omega
set_option maxRecDepth 100000 in
theorem side_any (n : Int) (w : World) : Calls Tryd.prog 22 #[.int .i64 n] w fun e w' => e = .returned (.int .i64 (sideZ n)) ∧ w' = w := by
  go_enter Tryd.func22, Tryd.ntmps22
  go_wp2
  go_ret
  exact ⟨rfl, rfl⟩
set_option maxRecDepth 100000 in
theorem counted_any (n : Int) (w : World) : Calls Tryd.prog 19 #[.int .i64 n] w fun e w' => e = .returned (.int .i64 (sideZ n + 1)) ∧ w' = w := by
  have hb := sideZ_bd n
  have HC := Lib.hid (side_any n w)
  have hw : IntKind.i64.wrap (sideZ n + 1) = sideZ n + 1 := IntWalk.i64_in _ (by omega)
  generalize sideZ n = z at *
  go_enter Tryd.func19, Tryd.ntmps19
  go_wp2_with (go_at_call 22; (with_reducible refine (HC.out).mono ?_); rintro e w1 ⟨rfl, rfl⟩)
  go_ret
  exact ⟨rfl, rfl⟩
set_option maxRecDepth 100000 in
theorem near_any (n : Int) (w : World) : Calls Tryd.prog 21 #[.int .i64 n] w fun e w' => e = .returned (.int .i64 (sideZ n)) ∧ w' = w := by
  by_cases h0 : 0 ≤ n
  · by_cases h1 : n ≤ 1000
    · have e : sideZ n = n := by unfold sideZ; omega
      have HE := Lib.hid e
      have d0 : decide (n < 0) = false := decide_eq_false (by omega)
      have d1 : decide (1000 < n) = false := decide_eq_false (by omega)
      have d2 : decide (n > 1000) = false := decide_eq_false (by omega)
      clear e
      go_enter Tryd.func21, Tryd.ntmps21
      go_wp2
      go_ret
      exact ⟨by rw [HE.out]; rfl, rfl⟩
    · have e : sideZ n = 1000 := by unfold sideZ; omega
      have HE := Lib.hid e
      have d0 : decide (n < 0) = false := decide_eq_false (by omega)
      have d1 : decide (1000 < n) = true := decide_eq_true (by omega)
      have d2 : decide (n > 1000) = true := decide_eq_true (by omega)
      clear e
      go_enter Tryd.func21, Tryd.ntmps21
      go_wp2
      go_ret
      exact ⟨by rw [HE.out]; rfl, rfl⟩
  · have e : sideZ n = 0 := by unfold sideZ; omega
    have HE := Lib.hid e
    have d0 : decide (n < 0) = true := decide_eq_true (by omega)
    clear e
    go_enter Tryd.func21, Tryd.ntmps21
    go_wp2
    go_ret
    exact ⟨by rw [HE.out]; rfl, rfl⟩

def oneL (xs : List Int) : List (List Int) := xs.map fun x => [x]
theorem oneL_snoc (xs : List Int) (k : Nat) (h : k < xs.length) : oneL (xs.take (k + 1)) = oneL (xs.take k) ++ [[xs[k]?.getD 0]] := by
  rw [take_snocI xs k h, oneL, List.map_append]
  rfl
/-- Rows of one number: another one. -/
theorem num_step {wr w5 : World} {B k : Nat} {L : List (List Int)} {vals : List Value} {vo : Value} {z : Int} (hB : B ≤ wr.heap.size) (ho : wr.ownsRow B 42 1 vo k vals) (hr : RW wr B wr.heap.size L vals)
    (hg : ((wr.alloc (.cells #[.int .i64 z] 3)).alloc (.cells #[.slice (some ⟨wr.heap.size, 0, none⟩) 1 1] 42)).grownBy w5 vo.ownBlock) :
    RW w5 B w5.heap.size (L ++ [[z]]) (vals ++ [.slice (some ⟨wr.heap.size, 0, none⟩) 1 1]) := by
  have h1 := World.ownsRow_lit (e := 3) (size := 1) wr #[.int .i64 z] 1 (Nat.le_refl _) (by unfold maxLen; omega) rfl
  have hr2 : RW ((wr.alloc (.cells #[.int .i64 z] 3)).alloc (.cells #[.slice (some ⟨wr.heap.size, 0, none⟩) 1 1] 42)) B ((wr.alloc (.cells #[.int .i64 z] 3)).alloc (.cells #[.slice (some ⟨wr.heap.size, 0, none⟩) 1 1] 42)).heap.size L vals := rw_alloc (rw_alloc hr)
  have hv := own_mono (h1.alloc (.cells #[.slice (some ⟨wr.heap.size, 0, none⟩) 1 1] 42)) hB
  have hr3 := hr2.snoc (xs := [z]) hv (fun b hb => (hv.lt b hb).2)
  exact (hr3.keptO ((ho.alloc _).alloc _) hg).mono hg.size
theorem num_below {w wr w5 : World} {k : Nat} {vals : List Value} {vo : Value} {z : Int} (hb : Below w.heap.size w wr) (ho : wr.ownsRow w.heap.size 42 1 vo k vals)
    (hg : ((wr.alloc (.cells #[.int .i64 z] 3)).alloc (.cells #[.slice (some ⟨wr.heap.size, 0, none⟩) 1 1] 42)).grownBy w5 vo.ownBlock) : Below w.heap.size w w5 := by
  have hs := hb.size
  exact (belA (belA hb _) _).grown hg (by simp; omega) (fun j e => (ho.lt _ e).1)
set_option maxRecDepth 100000 in
set_option maxHeartbeats 4000000 in
theorem numbers_any (A : Option Addr) (xs : List Int) (n c : Nat) (hn : n = xs.length) (h1 : n ≤ 100) (w : World) (hR : RI w w.heap.size A xs) (hT : T10 w.heap.size w) :
    Calls Tryd.prog 18 #[.slice A n c] w fun e w' => e = .returned (.string (bsB (textT (cleanL (oneL xs))))) ∧ Below w.heap.size w w' := by
  obtain ⟨i1, hi1, hy0, hy1, hy2⟩ := info_parts Tryd.infoInts
  have HR := Lib.hid hR
  have HN := Lib.hid hn
  have HT := Lib.hid hT
  clear hR hn hT
  go_enter Tryd.func18, Tryd.ntmps18
  go_wp2
  go_loopw [3, 8] (fun v i wr => ∃ (k : Nat) (vo : Value) (vals : List Value), vo = v ∧ k ≤ n ∧ i = .int .i64 k ∧ Hid (wr.ownsRow w.heap.size 42 1 vo k vals) ∧ Hid (RW wr w.heap.size wr.heap.size (oneL (xs.take k)) vals) ∧ Hid (Below w.heap.size w wr)) (fun _ i _ => n - (intOf i).toNat)
  case atStart => exact ⟨0, _, [], rfl, Nat.zero_le _, rfl, Lib.hid (World.ownsRow_nil _ _ _ _), Lib.hid (RW.nil _ _ _), Lib.hid (Below.refl _ _)⟩
  case round =>
    obtain ⟨k, vo, vals, rfl, hkn, rfl, HO, HW, HB⟩ := hrel
    by_cases hlt : k < n
    · obtain ⟨b, off, e, hblt, hc⟩ := HR.out (fun e => by have := HN.out; rw [e] at this; simp at this; omega)
      subst e
      have hck := (HB.out.cell (p := ⟨b, off + k, none⟩) hblt).trans (hc k (HN.out ▸ hlt))
      have hli : (k : Int) < n := by omega
      have HX := Lib.hid (oneL_snoc xs k (HN.out ▸ hlt))
      have hsz := HB.out.size
      clear hc hblt
      generalize xs[k]?.getD 0 = z at *
      obtain ⟨Ao, co, hvo, _⟩ := own_form HO.out
      subst hvo
      go_wp2_with (at_builtin; go_must (refine wpList_append_own _ rfl _ _ 33 rfl w.heap.size 42 i1 (.slice none 0 0) 1 24 Tryd.underlying33 hi1 hy0 hy1 hy2 rfl (by decide) (.slice Ao k co) k vals rfl ((HO.out.alloc _).alloc _) ⟨wr.heap.size + 1, 0, none⟩ 1 1 [.slice (some ⟨wr.heap.size, 0, none⟩) 1 1] rfl rfl (news2 wr _ _ _) (by simp [Value.oneCell']) (by unfold maxLen; omega) (by omega) (by simp; omega) ?_; intro v2 w5 hown2 hgrow2 _; have HO5 := Lib.hid hown2; have HW5 := Lib.hid (num_step hsz HO.out HW.out hgrow2); have HB5 := Lib.hid (num_below HB.out HO.out hgrow2); clear hown2 hgrow2))
      go_roundw
      case rel => exact ⟨k + 1, v2, _, rfl, hlt, by go_num, HO5, by rw [HX.out]; exact HW5, HB5⟩
      case measure => simp [intOf]; omega
    · obtain rfl : k = n := by omega
      have HX : Hid (oneL (xs.take k) = oneL xs) := Lib.hid (by rw [HN.out, List.take_length])
      obtain ⟨Ao, co, hvo, _⟩ := own_form HO.out
      subst hvo
      have HL : Hid (k = (oneL xs).length) := Lib.hid (by rw [oneL, List.length_map]; exact HN.out)
      rw [HX.out] at HW
      have HC := Lib.hid (text_any Ao (oneL xs) k co HL.out (own_cap HO.out) (by omega) (fun r hr => by
        obtain ⟨x, _, rfl⟩ := List.mem_map.1 hr
        simp) wr (RG.of_rows HO.out HL.out HW.out) (HT.out.on HB.out HB.out.size))
      clear HX HW HO HL
      go_wp2_with (go_at_call 35; (with_reducible refine (HC.out).mono ?_); rintro e w2 ⟨rfl, hb⟩; have HB2 := Lib.hid (bel0 HB.out hb); clear hb)
      go_ret
      exact ⟨rfl, HB2.out⟩
/-- Two numbers, and three, as they are told. -/
theorem nums_two (a b : Int) (h0 : 0 ≤ a) (h1 : a ≤ 65535) (h2 : 0 ≤ b) (h3 : b ≤ 65535) : textT (cleanL (oneL [a, b])) = Lib.itoa a ++ [59] ++ Lib.itoa b := by
  have ea : clampV a = a := by unfold clampV; omega
  have eb : clampV b = b := by unfold clampV; omega
  have na : ¬ a = -1 := by omega
  have nb : ¬ b = -1 := by omega
  simp [cleanL, oneL, rowZ, textT, rowT, sepT, numT, ea, eb, na, nb]
theorem nums_three (a b c : Int) (h0 : 0 ≤ a) (h1 : a ≤ 65535) (h2 : 0 ≤ b) (h3 : b ≤ 65535) (h4 : 0 ≤ c) (h5 : c ≤ 65535) : textT (cleanL (oneL [a, b, c])) = Lib.itoa a ++ [59] ++ Lib.itoa b ++ [59] ++ Lib.itoa c := by
  have ea : clampV a = a := by unfold clampV; omega
  have eb : clampV b = b := by unfold clampV; omega
  have ec : clampV c = c := by unfold clampV; omega
  have na : ¬ a = -1 := by omega
  have nb : ¬ b = -1 := by omega
  have nc : ¬ c = -1 := by omega
  simp [cleanL, oneL, rowZ, textT, rowT, sepT, numT, ea, eb, ec, na, nb, nc]
theorem nums_one (a : Int) (h0 : 0 ≤ a) (h1 : a ≤ 65535) : textT (cleanL (oneL [a])) = Lib.itoa a := by
  have ea : clampV a = a := by unfold clampV; omega
  have na : ¬ a = -1 := by omega
  simp [cleanL, oneL, rowZ, textT, rowT, sepT, numT, ea, na]
end Go.Proofs.YtlolbfbkoimjkaaDoor
