/- The walk of strconv.ParseUint at two bytes, base 16, 8 bits. -/
import Derived.Test.YtkkhlmilcdlfoaaDoorXa
import Derived.Lib.ConvBytes
import Derived.Lib.Walk
import Derived.Lib.IfaceEq
namespace Go.Proofs.YtkkhlmilcdlfoaaDoor
open Go.RowKit

theorem low_or : ∀ c : Fin 256, bits .or .u8 (c.val : Int) 32 = ((c.val ||| 32 : Nat) : Int) := by decide +kernel
theorem low_cls0 : ∀ c : Fin 256, (48 ≤ c.val ∧ c.val ≤ 57 ∧ hexV (UInt8.ofNat c.val) = some (c.val - 48)) ∨ ((c.val < 48 ∨ 57 < c.val) ∧ c.val ≠ 95 ∧ 97 ≤ (c.val ||| 32) ∧ (c.val ||| 32) ≤ 102 ∧ hexV (UInt8.ofNat c.val) = some ((c.val ||| 32) - 87)) ∨ ((c.val < 48 ∨ 57 < c.val) ∧ c.val ≠ 95 ∧ 103 ≤ (c.val ||| 32) ∧ (c.val ||| 32) ≤ 122 ∧ hexV (UInt8.ofNat c.val) = none) ∨ ((c.val < 48 ∨ 57 < c.val) ∧ c.val ≠ 95 ∧ ((c.val ||| 32) < 97 ∨ 122 < (c.val ||| 32)) ∧ hexV (UInt8.ofNat c.val) = none) ∨ (UInt8.ofNat c.val = 95) := by decide +kernel
/-- A byte with its bit of 32 set. -/
def lowC (c : UInt8) : Nat := c.toNat ||| 32
theorem low_cls (c : UInt8) : (48 ≤ c.toNat ∧ c.toNat ≤ 57 ∧ hexV c = some (c.toNat - 48)) ∨ ((c.toNat < 48 ∨ 57 < c.toNat) ∧ c.toNat ≠ 95 ∧ 97 ≤ lowC c ∧ lowC c ≤ 102 ∧ hexV c = some (lowC c - 87)) ∨ ((c.toNat < 48 ∨ 57 < c.toNat) ∧ c.toNat ≠ 95 ∧ 103 ≤ lowC c ∧ lowC c ≤ 122 ∧ hexV c = none) ∨ ((c.toNat < 48 ∨ 57 < c.toNat) ∧ c.toNat ≠ 95 ∧ (lowC c < 97 ∨ 122 < lowC c) ∧ hexV c = none) ∨ c = 95 := by
  have h := low_cls0 ⟨c.toNat, c.toNat_lt⟩
  simp only [UInt8.ofNat_toNat] at h
  exact h
theorem lower_any (c : UInt8) (w : World) : Calls Tryd.prog 88 #[.int .u8 c.toNat] w fun e w' => e = .returned (.int .u8 (lowC c : Nat)) ∧ w' = w := by
  have HL := Lib.hid (low_or ⟨c.toNat, c.toNat_lt⟩)
  go_enter Tryd.func88, Tryd.ntmps88
  go_wp2
  go_ret
  exact ⟨by rw [show bits .or .u8 (c.toNat : Int) 32 = _ from HL.out]; rfl, rfl⟩
/-- The number that hex digits are. -/
def hexN : Nat → List UInt8 → Option Nat
  | acc, [] => some acc
  | acc, c :: r => match hexV c with
    | some v => hexN (acc * 16 + v) r
    | none => none
/-- What ParseUint answers: the number, or that it is none. -/
def hexAns : Option Nat → Value
  | some x => .tuple #[.int .u64 (x : Int), .nilIface]
  | none => .tuple #[.int .u64 0, .iface 83 (.int .i64 2)]
theorem bytesB {w : World} (s : ByteArray) : Below w.heap.size w (Lib.bytesWorld w 5 s) :=
  Lib.below_freeze (B := w.heap.size) (((Below.refl w.heap.size w).drew).alloc (Nat.le_refl _) _) (p := ⟨w.heap.size, _, none⟩) (Nat.le_refl _) _
theorem hexN_cons (acc : Nat) (c : UInt8) (r : List UInt8) : hexN acc (c :: r) = match hexV c with | some v => hexN (acc * 16 + v) r | none => none := rfl
set_option maxHeartbeats 4000000 in
set_option maxRecDepth 100000 in
theorem parse16_any (l : List UInt8) (hl : l.length = 2) (w : World) :
    Calls Tryd.prog 69 #[.string (bsB l), .int .i64 16, .int .i64 8] w fun e w' => e = .returned (hexAns (hexN 0 l)) ∧ Below w.heap.size w w' := by
  have hs : (bsB l).size = 2 := by rw [bsB_size, hl]
  have hemp : (bsB l).toList.isEmpty = false := by rw [bs_toList]; cases l with | nil => simp at hl | cons => rfl
  have hcv := Lib.run_convert_string_bytes (P := Tryd.prog) w 9 46 5 (bsB l) (u := .string) Tryd.underlying9 Tryd.underlying46 Tryd.underlying5
  have hB : ∀ j, j < (bsB l).size → (Lib.bytesWorld w 5 (bsB l)).cell? ⟨w.heap.size, j, none⟩ = some (.int .u8 ((bsB l).data.toList.getD j 0).toNat) := fun j hj => Lib.bytesWorld_cell w 5 (bsB l) j hj
  have HBW := Lib.hid (bytesB (w := w) (bsB l))
  rw [bs_list] at hB
  obtain ⟨W1, hW1⟩ : ∃ W1, W1 = Lib.bytesWorld w 5 (bsB l) := ⟨_, rfl⟩
  rw [← hW1] at hcv hB HBW
  clear hW1
  rw [hs] at hB
  have HBC : Hid (∀ j : Nat, j < 2 → W1.cell? ⟨w.heap.size, j, none⟩ = some (.int .u8 (l.getD j 0).toNat)) := Lib.hid hB
  have HLN := Lib.hid hl
  have hmv : IntKind.u64.wrap (IntKind.u64.wrap 256 - 1) = 255 := by
    rw [IntKind.wrap_u64, IntKind.wrap_u64]
    decide
  clear hB hl
  have hss : (bsB l).size = 2 := hs
  generalize bsB l = t at *
  rw [hs] at hcv
  generalize grownCap w 2 0 5 = cp at *
  go_enter Tryd.func69, Tryd.ntmps69
  go_wp2
  go_loop [12, 13, 101] (fun vu vn vi => ∃ (k acc : Nat) (a : Int), vu = .bool false ∧ vn = .int .u64 a ∧ vi = .int .i64 k ∧ k ≤ 2 ∧ Hid (a = (acc : Int) ∧ acc < 16 ^ k ∧ hexN 0 l = hexN acc (l.drop k)))
    (fun _ _ vi => 2 - (intOf vi).toNat)
  case atStart => exact ⟨0, 0, 0, rfl, rfl, rfl, by omega, Lib.hid ⟨rfl, by decide, rfl⟩⟩
  case round =>
    obtain ⟨k, acc, a, rfl, rfl, rfl, hk, hh⟩ := hrel
    obtain ⟨ha, hacc, hdec⟩ := hh.out
    clear hh
    by_cases hkn : k < 2
    · have hc := HBC.out k hkn
      have hac16 : acc < 16 := by
        rcases (by omega : k = 0 ∨ k = 1) with rfl | rfl
        · exact Nat.lt_of_lt_of_le hacc (by decide)
        · exact hacc
      have HPW : Hid (∀ b, b < 16 → acc * 16 + b < 16 ^ (k + 1)) := Lib.hid fun b hb => by
        rcases (by omega : k = 0 ∨ k = 1) with rfl | rfl
        · have : acc = 0 := by simpa using hacc
          subst this
          simpa using hb
        · show _ < 256
          omega
      have hlk : k < l.length := by have := HLN.out; omega
      have hdrop : l.drop k = l[k]'hlk :: l.drop (k + 1) := List.drop_eq_getElem_cons hlk
      have hget : l.getD k 0 = l[k]'hlk := by simp [List.getD, List.getElem?_eq_getElem hlk]
      rw [hdrop, hexN_cons] at hdec
      rw [hget] at hc
      generalize l[k]'hlk = c at hc hdec
      have hc256 : c.toNat < 256 := c.toNat_lt
      have HLO : Hid (∀ W, Calls Tryd.prog 88 #[.int .u8 c.toNat] W fun e w' => e = .returned (.int .u8 (lowC c : Nat)) ∧ w' = W) := Lib.hid (lower_any c)
      have a0 : 0 ≤ a := by omega
      have a1 : a < 16 := by omega
      rcases low_cls c with ⟨h1, h2, h3⟩ | ⟨h1, h95, h2, h3, h4⟩ | ⟨h1, h95, h2, h3, h4⟩ | ⟨h1, h95, h2, h4⟩ | rfl
      · rw [h3] at hdec
        replace hdec : hexN 0 l = hexN (acc * 16 + (c.toNat - 48)) (l.drop (k + 1)) := hdec
        have HN : Hid (a * 16 + ((c.toNat : Int) - 48) = ((acc * 16 + (c.toNat - 48) : Nat) : Int) ∧ acc * 16 + (c.toNat - 48) < 16 ^ (k + 1) ∧ hexN 0 l = hexN (acc * 16 + (c.toNat - 48)) (l.drop (k + 1))) := Lib.hid ⟨by omega, HPW.out _ (by omega), hdec⟩
        clear hacc hdec ha hdrop hget hlk hac16 h3
        generalize lowC c = lo at *
        generalize c.toNat = n at *
        go_wp2
        exact ⟨⟨k + 1, acc * 16 + (n - 48), a * 16 + ((n : Int) - 48), rfl, rfl, rfl, by omega, HN⟩, by simp [intOf]; omega⟩
      · rw [h4] at hdec
        replace hdec : hexN 0 l = hexN (acc * 16 + (lowC c - 87)) (l.drop (k + 1)) := hdec
        have HN : Hid (a * 16 + ((lowC c : Int) - 97 + 10) = ((acc * 16 + (lowC c - 87) : Nat) : Int) ∧ acc * 16 + (lowC c - 87) < 16 ^ (k + 1) ∧ hexN 0 l = hexN (acc * 16 + (lowC c - 87)) (l.drop (k + 1))) := Lib.hid ⟨by omega, HPW.out _ (by omega), hdec⟩
        clear hacc hdec ha hdrop hget hlk hac16 h4
        generalize lowC c = lo at *
        generalize c.toNat = n at *
        rcases h1 with h1 | h1
        all_goals
          go_wp2_with (go_at_call 88; (with_reducible refine (HLO.out _).mono ?_); rintro e w3 ⟨rfl, rfl⟩)
          exact ⟨⟨k + 1, acc * 16 + (lo - 87), a * 16 + ((lo : Int) - 97 + 10), rfl, rfl, rfl, by omega, HN⟩, by simp [intOf]; omega⟩
      · rw [h4] at hdec
        replace hdec : hexN 0 l = none := hdec
        have HN : Hid (hexAns (hexN 0 l) = .tuple #[.int .u64 0, .iface 83 (.int .i64 2)]) := Lib.hid (by rw [hdec]; rfl)
        clear hacc hdec ha hdrop hget hlk hac16 h4
        generalize lowC c = lo at *
        generalize c.toNat = n at *
        rcases h1 with h1 | h1
        all_goals
          go_wp2_with (go_at_call 88; (with_reducible refine (HLO.out _).mono ?_); rintro e w3 ⟨rfl, rfl⟩)
          go_ret2
          exact ⟨congrArg Ending.returned HN.out.symm, HBW.out⟩
      · rw [h4] at hdec
        replace hdec : hexN 0 l = none := hdec
        have HN : Hid (hexAns (hexN 0 l) = .tuple #[.int .u64 0, .iface 83 (.int .i64 2)]) := Lib.hid (by rw [hdec]; rfl)
        clear hacc hdec ha hdrop hget hlk hac16 h4
        generalize lowC c = lo at *
        generalize c.toNat = n at *
        rcases h1 with h1 | h1
        all_goals rcases h2 with h2 | h2
        all_goals
          go_wp2_with (go_at_call 88; (with_reducible refine (HLO.out _).mono ?_); rintro e w3 ⟨rfl, rfl⟩)
          go_ret2
          exact ⟨congrArg Ending.returned HN.out.symm, HBW.out⟩
      · replace hdec : hexN 0 l = none := hdec
        have HN : Hid (hexAns (hexN 0 l) = .tuple #[.int .u64 0, .iface 83 (.int .i64 2)]) := Lib.hid (by rw [hdec]; rfl)
        have HLO : Hid (∀ W, Calls Tryd.prog 88 #[.int .u8 95] W fun e w' => e = .returned (.int .u8 127) ∧ w' = W) := HLO
        have hc : W1.cell? ⟨w.heap.size, k, none⟩ = some (.int .u8 95) := hc
        clear hacc hdec ha hdrop hget hlk hac16 hc256
        go_wp2_with (go_at_call 88; (with_reducible refine (HLO.out _).mono ?_); rintro e w3 ⟨rfl, rfl⟩)
        go_ret2
        exact ⟨congrArg Ending.returned HN.out.symm, HBW.out⟩
    · have hkk : k = 2 := by omega
      subst hkk
      have hF : hexN acc (l.drop 2) = some acc := by rw [List.drop_eq_nil_of_le (by have := HLN.out; omega)]; rfl
      rw [hF] at hdec
      have HN : Hid (hexAns (hexN 0 l) = .tuple #[.int .u64 (acc : Int), .nilIface]) := Lib.hid (by rw [hdec]; rfl)
      subst ha
      clear hacc hdec hF
      go_wp2
      go_ret2
      exact ⟨congrArg Ending.returned HN.out.symm, HBW.out⟩
end Go.Proofs.YtkkhlmilcdlfoaaDoor
