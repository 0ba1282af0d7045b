/- The walks of utf8.FullRune and utf.beginning. -/
import Derived.Test.YtoiekhjmfoodiaaDoorProg
import Derived.WalkKit
import Derived.WalkSpells
import Derived.WalkLawsBesides
import Derived.Lib.Hide
import Derived.StillTailTactics
import Derived.Deep.QuietTactic
import Derived.BigQuiet
import Derived.Deep.WholeRow
import Derived.Shelf.Unicode.DecodeSlow
import Derived.Shelf.Spec.DecodeRune
import Derived.Below
import Derived.RangeFuncNested
import Derived.RangeFuncBound
import Derived.RangeFuncCalls
import Derived.RangeFuncLeaves
import Derived.RangeFuncBox
import Derived.Shelf.Abstract
import Derived.Shelf.RegionOpen
import Derived.OwnWalkIn
import Derived.TacticsInMore
import Derived.LoopNIn
import Derived.LoopIn
import Derived.Maps.AppendAt
namespace Go.Proofs.YtoiekhjmfoodiaaDoor
open Go.RowKit

/-- The tables of unicode/utf8 lie where the program's variables lie. -/
def UT (w : World) : Prop := Lib.Utf8Tabs 2 3 w ∧ 2 < w.heap.size ∧ 3 < w.heap.size
set_option maxRecDepth 100000 in
theorem UT.below {w w' : World} (h : UT w) (hb : Below w.heap.size w w') : UT w' :=
  ⟨⟨fun c hc => (hb.cell (p := ⟨_, c, none⟩) h.2.1).trans (h.1.1 c hc), fun i hi => ⟨(hb.cell (p := ⟨_, 2 * i, none⟩) h.2.2).trans (h.1.2 i hi).1, (hb.cell (p := ⟨_, 2 * i + 1, none⟩) h.2.2).trans (h.1.2 i hi).2⟩⟩, Nat.lt_of_lt_of_le h.2.1 hb.size, Nat.lt_of_lt_of_le h.2.2 hb.size⟩

/-- The slice value '.slice A zs.length c' reads as the bytes zs; it lies below block B. -/
def BS (w : World) (B : Nat) (A : Option Addr) (zs : List Nat) : Prop :=
  (∀ z ∈ zs, z < 256) ∧ (zs ≠ [] → ∃ b off, A = some ⟨b, off, none⟩ ∧ b < B ∧ ∀ k, k < zs.length → w.cell? ⟨b, off + k, none⟩ = some (.int .u8 (zs[k]?.getD 0)))
set_option maxRecDepth 100000 in
theorem BS.below {w w' : World} {B : Nat} {A : Option Addr} {zs : List Nat} (h : BS w B A zs) (hb : Below B w w') : BS w' B A zs := ⟨h.1, fun hn => by
  obtain ⟨b, off, e, hlt, hc⟩ := h.2 hn
  exact ⟨b, off, e, hlt, fun k hk => (hb.cell (p := ⟨b, off + k, none⟩) hlt).trans (hc k hk)⟩⟩
set_option maxRecDepth 100000 in
theorem BS.more {w : World} {B B' : Nat} {A : Option Addr} {zs : List Nat} (h : BS w B A zs) (hB : B ≤ B') : BS w B' A zs := ⟨h.1, fun hn => by
  obtain ⟨b, off, e, hlt, hc⟩ := h.2 hn
  exact ⟨b, off, e, Nat.lt_of_lt_of_le hlt hB, hc⟩⟩

/-- Do bytes begin with what is no beginning? (x: what the table says of the first one; n: how many there are; b1, b2: the next ones.) -/
def fullX (x lo hi n b1 b2 : Nat) : Bool := decide (n ≠ 0 ∧ (x % 8 ≤ n ∨ (1 < n ∧ (b1 < lo ∨ hi < b1)) ∨ (2 < n ∧ (b2 < 128 ∨ 191 < b2))))
def fullN (n b0 b1 b2 : Nat) : Bool := fullX (Lib.firstT b0) (Lib.accLo (Lib.firstT b0 / 16)) (Lib.accHi (Lib.firstT b0 / 16)) n b1 b2
def fullB (zs : List Nat) : Bool := fullN zs.length (zs[0]?.getD 0) (zs[1]?.getD 0) (zs[2]?.getD 0)

set_option maxRecDepth 100000 in
theorem belowN {B : Nat} {a w : World} (h : Below B a w) (n : Nat) : Below B a (w.drewN n) := ⟨h.os, h.tape, h.output, h.size, h.block⟩
set_option maxRecDepth 100000 in
theorem full_nil (A : Option Addr) (c : Nat) (w : World) : Calls Tryd.prog 84 #[.slice A 0 c] w fun e w' => e = .returned (.bool false) ∧ Below w.heap.size w w' := by
  go_enter Tryd.func84, Tryd.ntmps84
  go_wp2
  go_ret
  exact ⟨rfl, Below.refl _ _⟩
set_option maxHeartbeats 1000000 in
set_option maxRecDepth 100000 in
theorem full_one (x : Nat) (hx : x = 240 ∨ x = 241) (b off n c b0 : Nat) (hpos : 0 < n) (h63 : n ≤ 9223372036854775807) (hb0 : b0 < 256) (w : World) (hc0 : w.cell? ⟨b, off, none⟩ = some (.int .u8 b0)) (hf : w.cell? ⟨2, b0, none⟩ = some (.int .u8 x)) :
    Calls Tryd.prog 84 #[.slice (some ⟨b, off, none⟩) n c] w fun e w' => e = .returned (.bool true) ∧ Below w.heap.size w w' := by
  have hnz : ((n : Int) == 0) = false := by simp; omega
  have hz0' : (b0 : Int) < 256 := by omega
  have hn1 : (1 : Int) ≤ n := by omega
  have hn0 : (0 : Int) < n := by omega
  rcases hx with rfl | rfl
  all_goals
    go_enter Tryd.func84, Tryd.ntmps84
    go_wp2
    go_ret
    exact ⟨rfl, Below.refl _ _⟩
set_option maxHeartbeats 1000000 in
set_option maxRecDepth 100000 in
theorem full_2 (b off n c b0 b1 b2 : Nat) (hpos : 0 < n) (h63 : n ≤ 9223372036854775807) (hb0 : b0 < 256) (w : World) (hc0 : w.cell? ⟨b, off, none⟩ = some (.int .u8 b0)) (hf : w.cell? ⟨2, b0, none⟩ = some (.int .u8 2))
    (hc1 : 1 < n → w.cell? ⟨b, off + 1, none⟩ = some (.int .u8 b1)) (hc2 : 2 < n → w.cell? ⟨b, off + 2, none⟩ = some (.int .u8 b2))
    (hl : w.cell? ⟨3, 0, none⟩ = some (.int .u8 128)) (hh : w.cell? ⟨3, 1, none⟩ = some (.int .u8 191)) (hbw : b < w.heap.size) :
    Calls Tryd.prog 84 #[.slice (some ⟨b, off, none⟩) n c] w fun e w' => e = .returned (.bool (fullX 2 128 191 n b1 b2)) ∧ Below w.heap.size w w' := by
  have hused := And.intro hc1 (And.intro hc2 hbw)
  clear hused
  have hnz : ((n : Int) == 0) = false := by simp; omega
  have hz0' : (b0 : Int) < 256 := by omega
  have hn0 : (0 : Int) < n := by omega
  by_cases hs : 2 ≤ n
  · have HZ : Hid (fullX 2 128 191 n b1 b2 = true) := Lib.hid (decide_eq_true (by omega))
    have hs' : (2 : Int) ≤ n := by omega
    clear hc1 hc2
    go_enter Tryd.func84, Tryd.ntmps84
    go_wp2
    go_ret
    exact ⟨by rw [HZ.out]; rfl, Below.refl _ _⟩
  · have hs' : ¬ (2 : Int) ≤ n := by omega
    have hsl : (n : Int) < 2 := by omega
    have hA : Below w.heap.size w (w.alloc (.cells #[.int .u8 128, .int .u8 191] 100)) := (Below.refl _ _).alloc (Nat.le_refl _) _
    by_cases h1 : 1 < n
    · exfalso; omega
    · have hd1 : decide ((1 : Int) < n) = false := decide_eq_false (by omega)
      have hd2 : decide ((2 : Int) < n) = false := decide_eq_false (by omega)
      clear hc1 hc2
      have HZ : Hid (fullX 2 128 191 n b1 b2 = false) := Lib.hid (decide_eq_false (by omega))
      go_enter Tryd.func84, Tryd.ntmps84
      go_wp2
      go_quiet (fail)
      go_wp2
      go_ret
      exact ⟨by rw [HZ.out]; rfl, belowN hA _⟩
set_option maxHeartbeats 1000000 in
set_option maxRecDepth 100000 in
theorem full_19 (b off n c b0 b1 b2 : Nat) (hpos : 0 < n) (h63 : n ≤ 9223372036854775807) (hb0 : b0 < 256) (w : World) (hc0 : w.cell? ⟨b, off, none⟩ = some (.int .u8 b0)) (hf : w.cell? ⟨2, b0, none⟩ = some (.int .u8 19))
    (hc1 : 1 < n → w.cell? ⟨b, off + 1, none⟩ = some (.int .u8 b1)) (hc2 : 2 < n → w.cell? ⟨b, off + 2, none⟩ = some (.int .u8 b2))
    (hl : w.cell? ⟨3, 2, none⟩ = some (.int .u8 160)) (hh : w.cell? ⟨3, 3, none⟩ = some (.int .u8 191)) (hbw : b < w.heap.size) :
    Calls Tryd.prog 84 #[.slice (some ⟨b, off, none⟩) n c] w fun e w' => e = .returned (.bool (fullX 19 160 191 n b1 b2)) ∧ Below w.heap.size w w' := by
  have hused := And.intro hc1 (And.intro hc2 hbw)
  clear hused
  have hnz : ((n : Int) == 0) = false := by simp; omega
  have hz0' : (b0 : Int) < 256 := by omega
  have hn0 : (0 : Int) < n := by omega
  by_cases hs : 3 ≤ n
  · have HZ : Hid (fullX 19 160 191 n b1 b2 = true) := Lib.hid (decide_eq_true (by omega))
    have hs' : (3 : Int) ≤ n := by omega
    clear hc1 hc2
    go_enter Tryd.func84, Tryd.ntmps84
    go_wp2
    go_ret
    exact ⟨by rw [HZ.out]; rfl, Below.refl _ _⟩
  · have hs' : ¬ (3 : Int) ≤ n := by omega
    have hsl : (n : Int) < 3 := by omega
    have hA : Below w.heap.size w (w.alloc (.cells #[.int .u8 160, .int .u8 191] 100)) := (Below.refl _ _).alloc (Nat.le_refl _) _
    by_cases h1 : 1 < n
    · have k1 := (hA.cell (p := ⟨b, off + 1, none⟩) hbw).trans (hc1 h1)
      have h1' : (1 : Int) < n := by omega
      by_cases g1 : b1 < 160
      · have HZ : Hid (fullX 19 160 191 n b1 b2 = true) := Lib.hid (decide_eq_true (by omega))
        have q0 : (b1 : Int) < 160 := by omega
        clear hc1 hc2
        go_enter Tryd.func84, Tryd.ntmps84
        go_wp2
        go_quiet (fail)
        go_wp2
        go_ret
        exact ⟨by rw [HZ.out]; rfl, belowN hA _⟩
      · by_cases g2 : 191 < b1
        · have HZ : Hid (fullX 19 160 191 n b1 b2 = true) := Lib.hid (decide_eq_true (by omega))
          have q0 : (191 : Int) < b1 := by omega
          have q1 : decide ((b1 : Int) < 160) = false := decide_eq_false (by omega)
          clear hc1 hc2
          go_enter Tryd.func84, Tryd.ntmps84
          go_wp2
          go_quiet (fail)
          go_wp2
          go_ret
          exact ⟨by rw [HZ.out]; rfl, belowN hA _⟩
        · have HZ : Hid (fullX 19 160 191 n b1 b2 = false) := Lib.hid (decide_eq_false (by omega))
          have q0 : decide ((191 : Int) < b1) = false := decide_eq_false (by omega)
          have q1 : decide ((b1 : Int) < 160) = false := decide_eq_false (by omega)
          have q2 : decide ((2 : Int) < n) = false := decide_eq_false (by omega)
          clear hc1 hc2
          go_enter Tryd.func84, Tryd.ntmps84
          go_wp2
          go_quiet (fail)
          go_wp2
          go_ret
          exact ⟨by rw [HZ.out]; rfl, belowN hA _⟩
    · have hd1 : decide ((1 : Int) < n) = false := decide_eq_false (by omega)
      have hd2 : decide ((2 : Int) < n) = false := decide_eq_false (by omega)
      clear hc1 hc2
      have HZ : Hid (fullX 19 160 191 n b1 b2 = false) := Lib.hid (decide_eq_false (by omega))
      go_enter Tryd.func84, Tryd.ntmps84
      go_wp2
      go_quiet (fail)
      go_wp2
      go_ret
      exact ⟨by rw [HZ.out]; rfl, belowN hA _⟩
set_option maxHeartbeats 1000000 in
set_option maxRecDepth 100000 in
theorem full_3 (b off n c b0 b1 b2 : Nat) (hpos : 0 < n) (h63 : n ≤ 9223372036854775807) (hb0 : b0 < 256) (w : World) (hc0 : w.cell? ⟨b, off, none⟩ = some (.int .u8 b0)) (hf : w.cell? ⟨2, b0, none⟩ = some (.int .u8 3))
    (hc1 : 1 < n → w.cell? ⟨b, off + 1, none⟩ = some (.int .u8 b1)) (hc2 : 2 < n → w.cell? ⟨b, off + 2, none⟩ = some (.int .u8 b2))
    (hl : w.cell? ⟨3, 0, none⟩ = some (.int .u8 128)) (hh : w.cell? ⟨3, 1, none⟩ = some (.int .u8 191)) (hbw : b < w.heap.size) :
    Calls Tryd.prog 84 #[.slice (some ⟨b, off, none⟩) n c] w fun e w' => e = .returned (.bool (fullX 3 128 191 n b1 b2)) ∧ Below w.heap.size w w' := by
  have hused := And.intro hc1 (And.intro hc2 hbw)
  clear hused
  have hnz : ((n : Int) == 0) = false := by simp; omega
  have hz0' : (b0 : Int) < 256 := by omega
  have hn0 : (0 : Int) < n := by omega
  by_cases hs : 3 ≤ n
  · have HZ : Hid (fullX 3 128 191 n b1 b2 = true) := Lib.hid (decide_eq_true (by omega))
    have hs' : (3 : Int) ≤ n := by omega
    clear hc1 hc2
    go_enter Tryd.func84, Tryd.ntmps84
    go_wp2
    go_ret
    exact ⟨by rw [HZ.out]; rfl, Below.refl _ _⟩
  · have hs' : ¬ (3 : Int) ≤ n := by omega
    have hsl : (n : Int) < 3 := by omega
    have hA : Below w.heap.size w (w.alloc (.cells #[.int .u8 128, .int .u8 191] 100)) := (Below.refl _ _).alloc (Nat.le_refl _) _
    by_cases h1 : 1 < n
    · have k1 := (hA.cell (p := ⟨b, off + 1, none⟩) hbw).trans (hc1 h1)
      have h1' : (1 : Int) < n := by omega
      by_cases g1 : b1 < 128
      · have HZ : Hid (fullX 3 128 191 n b1 b2 = true) := Lib.hid (decide_eq_true (by omega))
        have q0 : (b1 : Int) < 128 := by omega
        clear hc1 hc2
        go_enter Tryd.func84, Tryd.ntmps84
        go_wp2
        go_quiet (fail)
        go_wp2
        go_ret
        exact ⟨by rw [HZ.out]; rfl, belowN hA _⟩
      · by_cases g2 : 191 < b1
        · have HZ : Hid (fullX 3 128 191 n b1 b2 = true) := Lib.hid (decide_eq_true (by omega))
          have q0 : (191 : Int) < b1 := by omega
          have q1 : decide ((b1 : Int) < 128) = false := decide_eq_false (by omega)
          clear hc1 hc2
          go_enter Tryd.func84, Tryd.ntmps84
          go_wp2
          go_quiet (fail)
          go_wp2
          go_ret
          exact ⟨by rw [HZ.out]; rfl, belowN hA _⟩
        · have HZ : Hid (fullX 3 128 191 n b1 b2 = false) := Lib.hid (decide_eq_false (by omega))
          have q0 : decide ((191 : Int) < b1) = false := decide_eq_false (by omega)
          have q1 : decide ((b1 : Int) < 128) = false := decide_eq_false (by omega)
          have q2 : decide ((2 : Int) < n) = false := decide_eq_false (by omega)
          clear hc1 hc2
          go_enter Tryd.func84, Tryd.ntmps84
          go_wp2
          go_quiet (fail)
          go_wp2
          go_ret
          exact ⟨by rw [HZ.out]; rfl, belowN hA _⟩
    · have hd1 : decide ((1 : Int) < n) = false := decide_eq_false (by omega)
      have hd2 : decide ((2 : Int) < n) = false := decide_eq_false (by omega)
      clear hc1 hc2
      have HZ : Hid (fullX 3 128 191 n b1 b2 = false) := Lib.hid (decide_eq_false (by omega))
      go_enter Tryd.func84, Tryd.ntmps84
      go_wp2
      go_quiet (fail)
      go_wp2
      go_ret
      exact ⟨by rw [HZ.out]; rfl, belowN hA _⟩
set_option maxHeartbeats 1000000 in
set_option maxRecDepth 100000 in
theorem full_35 (b off n c b0 b1 b2 : Nat) (hpos : 0 < n) (h63 : n ≤ 9223372036854775807) (hb0 : b0 < 256) (w : World) (hc0 : w.cell? ⟨b, off, none⟩ = some (.int .u8 b0)) (hf : w.cell? ⟨2, b0, none⟩ = some (.int .u8 35))
    (hc1 : 1 < n → w.cell? ⟨b, off + 1, none⟩ = some (.int .u8 b1)) (hc2 : 2 < n → w.cell? ⟨b, off + 2, none⟩ = some (.int .u8 b2))
    (hl : w.cell? ⟨3, 4, none⟩ = some (.int .u8 128)) (hh : w.cell? ⟨3, 5, none⟩ = some (.int .u8 159)) (hbw : b < w.heap.size) :
    Calls Tryd.prog 84 #[.slice (some ⟨b, off, none⟩) n c] w fun e w' => e = .returned (.bool (fullX 35 128 159 n b1 b2)) ∧ Below w.heap.size w w' := by
  have hused := And.intro hc1 (And.intro hc2 hbw)
  clear hused
  have hnz : ((n : Int) == 0) = false := by simp; omega
  have hz0' : (b0 : Int) < 256 := by omega
  have hn0 : (0 : Int) < n := by omega
  by_cases hs : 3 ≤ n
  · have HZ : Hid (fullX 35 128 159 n b1 b2 = true) := Lib.hid (decide_eq_true (by omega))
    have hs' : (3 : Int) ≤ n := by omega
    clear hc1 hc2
    go_enter Tryd.func84, Tryd.ntmps84
    go_wp2
    go_ret
    exact ⟨by rw [HZ.out]; rfl, Below.refl _ _⟩
  · have hs' : ¬ (3 : Int) ≤ n := by omega
    have hsl : (n : Int) < 3 := by omega
    have hA : Below w.heap.size w (w.alloc (.cells #[.int .u8 128, .int .u8 159] 100)) := (Below.refl _ _).alloc (Nat.le_refl _) _
    by_cases h1 : 1 < n
    · have k1 := (hA.cell (p := ⟨b, off + 1, none⟩) hbw).trans (hc1 h1)
      have h1' : (1 : Int) < n := by omega
      by_cases g1 : b1 < 128
      · have HZ : Hid (fullX 35 128 159 n b1 b2 = true) := Lib.hid (decide_eq_true (by omega))
        have q0 : (b1 : Int) < 128 := by omega
        clear hc1 hc2
        go_enter Tryd.func84, Tryd.ntmps84
        go_wp2
        go_quiet (fail)
        go_wp2
        go_ret
        exact ⟨by rw [HZ.out]; rfl, belowN hA _⟩
      · by_cases g2 : 159 < b1
        · have HZ : Hid (fullX 35 128 159 n b1 b2 = true) := Lib.hid (decide_eq_true (by omega))
          have q0 : (159 : Int) < b1 := by omega
          have q1 : decide ((b1 : Int) < 128) = false := decide_eq_false (by omega)
          clear hc1 hc2
          go_enter Tryd.func84, Tryd.ntmps84
          go_wp2
          go_quiet (fail)
          go_wp2
          go_ret
          exact ⟨by rw [HZ.out]; rfl, belowN hA _⟩
        · have HZ : Hid (fullX 35 128 159 n b1 b2 = false) := Lib.hid (decide_eq_false (by omega))
          have q0 : decide ((159 : Int) < b1) = false := decide_eq_false (by omega)
          have q1 : decide ((b1 : Int) < 128) = false := decide_eq_false (by omega)
          have q2 : decide ((2 : Int) < n) = false := decide_eq_false (by omega)
          clear hc1 hc2
          go_enter Tryd.func84, Tryd.ntmps84
          go_wp2
          go_quiet (fail)
          go_wp2
          go_ret
          exact ⟨by rw [HZ.out]; rfl, belowN hA _⟩
    · have hd1 : decide ((1 : Int) < n) = false := decide_eq_false (by omega)
      have hd2 : decide ((2 : Int) < n) = false := decide_eq_false (by omega)
      clear hc1 hc2
      have HZ : Hid (fullX 35 128 159 n b1 b2 = false) := Lib.hid (decide_eq_false (by omega))
      go_enter Tryd.func84, Tryd.ntmps84
      go_wp2
      go_quiet (fail)
      go_wp2
      go_ret
      exact ⟨by rw [HZ.out]; rfl, belowN hA _⟩
set_option maxHeartbeats 1000000 in
set_option maxRecDepth 100000 in
theorem full_52 (b off n c b0 b1 b2 : Nat) (hpos : 0 < n) (h63 : n ≤ 9223372036854775807) (hb0 : b0 < 256) (w : World) (hc0 : w.cell? ⟨b, off, none⟩ = some (.int .u8 b0)) (hf : w.cell? ⟨2, b0, none⟩ = some (.int .u8 52))
    (hc1 : 1 < n → w.cell? ⟨b, off + 1, none⟩ = some (.int .u8 b1)) (hc2 : 2 < n → w.cell? ⟨b, off + 2, none⟩ = some (.int .u8 b2))
    (hl : w.cell? ⟨3, 6, none⟩ = some (.int .u8 144)) (hh : w.cell? ⟨3, 7, none⟩ = some (.int .u8 191)) (hbw : b < w.heap.size) :
    Calls Tryd.prog 84 #[.slice (some ⟨b, off, none⟩) n c] w fun e w' => e = .returned (.bool (fullX 52 144 191 n b1 b2)) ∧ Below w.heap.size w w' := by
  have hused := And.intro hc1 (And.intro hc2 hbw)
  clear hused
  have hnz : ((n : Int) == 0) = false := by simp; omega
  have hz0' : (b0 : Int) < 256 := by omega
  have hn0 : (0 : Int) < n := by omega
  by_cases hs : 4 ≤ n
  · have HZ : Hid (fullX 52 144 191 n b1 b2 = true) := Lib.hid (decide_eq_true (by omega))
    have hs' : (4 : Int) ≤ n := by omega
    clear hc1 hc2
    go_enter Tryd.func84, Tryd.ntmps84
    go_wp2
    go_ret
    exact ⟨by rw [HZ.out]; rfl, Below.refl _ _⟩
  · have hs' : ¬ (4 : Int) ≤ n := by omega
    have hsl : (n : Int) < 4 := by omega
    have hA : Below w.heap.size w (w.alloc (.cells #[.int .u8 144, .int .u8 191] 100)) := (Below.refl _ _).alloc (Nat.le_refl _) _
    by_cases h1 : 1 < n
    · have k1 := (hA.cell (p := ⟨b, off + 1, none⟩) hbw).trans (hc1 h1)
      have h1' : (1 : Int) < n := by omega
      by_cases g1 : b1 < 144
      · have HZ : Hid (fullX 52 144 191 n b1 b2 = true) := Lib.hid (decide_eq_true (by omega))
        have q0 : (b1 : Int) < 144 := by omega
        clear hc1 hc2
        go_enter Tryd.func84, Tryd.ntmps84
        go_wp2
        go_quiet (fail)
        go_wp2
        go_ret
        exact ⟨by rw [HZ.out]; rfl, belowN hA _⟩
      · by_cases g2 : 191 < b1
        · have HZ : Hid (fullX 52 144 191 n b1 b2 = true) := Lib.hid (decide_eq_true (by omega))
          have q0 : (191 : Int) < b1 := by omega
          have q1 : decide ((b1 : Int) < 144) = false := decide_eq_false (by omega)
          clear hc1 hc2
          go_enter Tryd.func84, Tryd.ntmps84
          go_wp2
          go_quiet (fail)
          go_wp2
          go_ret
          exact ⟨by rw [HZ.out]; rfl, belowN hA _⟩
        · by_cases h2 : 2 < n
          · have k2 := (hA.cell (p := ⟨b, off + 2, none⟩) hbw).trans (hc2 h2)
            have h2' : (2 : Int) < n := by omega
            by_cases g3 : b2 < 128
            · have HZ : Hid (fullX 52 144 191 n b1 b2 = true) := Lib.hid (decide_eq_true (by omega))
              have q0 : (b2 : Int) < 128 := by omega
              have q1 : decide ((191 : Int) < b1) = false := decide_eq_false (by omega)
              have q2 : decide ((b1 : Int) < 144) = false := decide_eq_false (by omega)
              clear hc1 hc2
              go_enter Tryd.func84, Tryd.ntmps84
              go_wp2
              go_quiet (fail)
              go_wp2
              go_ret
              exact ⟨by rw [HZ.out]; rfl, belowN hA _⟩
            · by_cases g4 : 191 < b2
              · have HZ : Hid (fullX 52 144 191 n b1 b2 = true) := Lib.hid (decide_eq_true (by omega))
                have q0 : (191 : Int) < b2 := by omega
                have q1 : decide ((b2 : Int) < 128) = false := decide_eq_false (by omega)
                have q2 : decide ((191 : Int) < b1) = false := decide_eq_false (by omega)
                have q3 : decide ((b1 : Int) < 144) = false := decide_eq_false (by omega)
                clear hc1 hc2
                go_enter Tryd.func84, Tryd.ntmps84
                go_wp2
                go_quiet (fail)
                go_wp2
                go_ret
                exact ⟨by rw [HZ.out]; rfl, belowN hA _⟩
              · have HZ : Hid (fullX 52 144 191 n b1 b2 = false) := Lib.hid (decide_eq_false (by omega))
                have q0 : decide ((191 : Int) < b2) = false := decide_eq_false (by omega)
                have q1 : decide ((b2 : Int) < 128) = false := decide_eq_false (by omega)
                have q2 : decide ((191 : Int) < b1) = false := decide_eq_false (by omega)
                have q3 : decide ((b1 : Int) < 144) = false := decide_eq_false (by omega)
                clear hc1 hc2
                go_enter Tryd.func84, Tryd.ntmps84
                go_wp2
                go_quiet (fail)
                go_wp2
                go_ret
                exact ⟨by rw [HZ.out]; rfl, belowN hA _⟩
          · have HZ : Hid (fullX 52 144 191 n b1 b2 = false) := Lib.hid (decide_eq_false (by omega))
            have q0 : decide ((2 : Int) < n) = false := decide_eq_false (by omega)
            have q1 : decide ((191 : Int) < b1) = false := decide_eq_false (by omega)
            have q2 : decide ((b1 : Int) < 144) = false := decide_eq_false (by omega)
            clear hc1 hc2
            go_enter Tryd.func84, Tryd.ntmps84
            go_wp2
            go_quiet (fail)
            go_wp2
            go_ret
            exact ⟨by rw [HZ.out]; rfl, belowN hA _⟩
    · have hd1 : decide ((1 : Int) < n) = false := decide_eq_false (by omega)
      have hd2 : decide ((2 : Int) < n) = false := decide_eq_false (by omega)
      clear hc1 hc2
      have HZ : Hid (fullX 52 144 191 n b1 b2 = false) := Lib.hid (decide_eq_false (by omega))
      go_enter Tryd.func84, Tryd.ntmps84
      go_wp2
      go_quiet (fail)
      go_wp2
      go_ret
      exact ⟨by rw [HZ.out]; rfl, belowN hA _⟩
set_option maxHeartbeats 1000000 in
set_option maxRecDepth 100000 in
theorem full_4 (b off n c b0 b1 b2 : Nat) (hpos : 0 < n) (h63 : n ≤ 9223372036854775807) (hb0 : b0 < 256) (w : World) (hc0 : w.cell? ⟨b, off, none⟩ = some (.int .u8 b0)) (hf : w.cell? ⟨2, b0, none⟩ = some (.int .u8 4))
    (hc1 : 1 < n → w.cell? ⟨b, off + 1, none⟩ = some (.int .u8 b1)) (hc2 : 2 < n → w.cell? ⟨b, off + 2, none⟩ = some (.int .u8 b2))
    (hl : w.cell? ⟨3, 0, none⟩ = some (.int .u8 128)) (hh : w.cell? ⟨3, 1, none⟩ = some (.int .u8 191)) (hbw : b < w.heap.size) :
    Calls Tryd.prog 84 #[.slice (some ⟨b, off, none⟩) n c] w fun e w' => e = .returned (.bool (fullX 4 128 191 n b1 b2)) ∧ Below w.heap.size w w' := by
  have hused := And.intro hc1 (And.intro hc2 hbw)
  clear hused
  have hnz : ((n : Int) == 0) = false := by simp; omega
  have hz0' : (b0 : Int) < 256 := by omega
  have hn0 : (0 : Int) < n := by omega
  by_cases hs : 4 ≤ n
  · have HZ : Hid (fullX 4 128 191 n b1 b2 = true) := Lib.hid (decide_eq_true (by omega))
    have hs' : (4 : Int) ≤ n := by omega
    clear hc1 hc2
    go_enter Tryd.func84, Tryd.ntmps84
    go_wp2
    go_ret
    exact ⟨by rw [HZ.out]; rfl, Below.refl _ _⟩
  · have hs' : ¬ (4 : Int) ≤ n := by omega
    have hsl : (n : Int) < 4 := by omega
    have hA : Below w.heap.size w (w.alloc (.cells #[.int .u8 128, .int .u8 191] 100)) := (Below.refl _ _).alloc (Nat.le_refl _) _
    by_cases h1 : 1 < n
    · have k1 := (hA.cell (p := ⟨b, off + 1, none⟩) hbw).trans (hc1 h1)
      have h1' : (1 : Int) < n := by omega
      by_cases g1 : b1 < 128
      · have HZ : Hid (fullX 4 128 191 n b1 b2 = true) := Lib.hid (decide_eq_true (by omega))
        have q0 : (b1 : Int) < 128 := by omega
        clear hc1 hc2
        go_enter Tryd.func84, Tryd.ntmps84
        go_wp2
        go_quiet (fail)
        go_wp2
        go_ret
        exact ⟨by rw [HZ.out]; rfl, belowN hA _⟩
      · by_cases g2 : 191 < b1
        · have HZ : Hid (fullX 4 128 191 n b1 b2 = true) := Lib.hid (decide_eq_true (by omega))
          have q0 : (191 : Int) < b1 := by omega
          have q1 : decide ((b1 : Int) < 128) = false := decide_eq_false (by omega)
          clear hc1 hc2
          go_enter Tryd.func84, Tryd.ntmps84
          go_wp2
          go_quiet (fail)
          go_wp2
          go_ret
          exact ⟨by rw [HZ.out]; rfl, belowN hA _⟩
        · by_cases h2 : 2 < n
          · have k2 := (hA.cell (p := ⟨b, off + 2, none⟩) hbw).trans (hc2 h2)
            have h2' : (2 : Int) < n := by omega
            by_cases g3 : b2 < 128
            · have HZ : Hid (fullX 4 128 191 n b1 b2 = true) := Lib.hid (decide_eq_true (by omega))
              have q0 : (b2 : Int) < 128 := by omega
              have q1 : decide ((191 : Int) < b1) = false := decide_eq_false (by omega)
              have q2 : decide ((b1 : Int) < 128) = false := decide_eq_false (by omega)
              clear hc1 hc2
              go_enter Tryd.func84, Tryd.ntmps84
              go_wp2
              go_quiet (fail)
              go_wp2
              go_ret
              exact ⟨by rw [HZ.out]; rfl, belowN hA _⟩
            · by_cases g4 : 191 < b2
              · have HZ : Hid (fullX 4 128 191 n b1 b2 = true) := Lib.hid (decide_eq_true (by omega))
                have q0 : (191 : Int) < b2 := by omega
                have q1 : decide ((b2 : Int) < 128) = false := decide_eq_false (by omega)
                have q2 : decide ((191 : Int) < b1) = false := decide_eq_false (by omega)
                have q3 : decide ((b1 : Int) < 128) = false := decide_eq_false (by omega)
                clear hc1 hc2
                go_enter Tryd.func84, Tryd.ntmps84
                go_wp2
                go_quiet (fail)
                go_wp2
                go_ret
                exact ⟨by rw [HZ.out]; rfl, belowN hA _⟩
              · have HZ : Hid (fullX 4 128 191 n b1 b2 = false) := Lib.hid (decide_eq_false (by omega))
                have q0 : decide ((191 : Int) < b2) = false := decide_eq_false (by omega)
                have q1 : decide ((b2 : Int) < 128) = false := decide_eq_false (by omega)
                have q2 : decide ((191 : Int) < b1) = false := decide_eq_false (by omega)
                have q3 : decide ((b1 : Int) < 128) = false := decide_eq_false (by omega)
                clear hc1 hc2
                go_enter Tryd.func84, Tryd.ntmps84
                go_wp2
                go_quiet (fail)
                go_wp2
                go_ret
                exact ⟨by rw [HZ.out]; rfl, belowN hA _⟩
          · have HZ : Hid (fullX 4 128 191 n b1 b2 = false) := Lib.hid (decide_eq_false (by omega))
            have q0 : decide ((2 : Int) < n) = false := decide_eq_false (by omega)
            have q1 : decide ((191 : Int) < b1) = false := decide_eq_false (by omega)
            have q2 : decide ((b1 : Int) < 128) = false := decide_eq_false (by omega)
            clear hc1 hc2
            go_enter Tryd.func84, Tryd.ntmps84
            go_wp2
            go_quiet (fail)
            go_wp2
            go_ret
            exact ⟨by rw [HZ.out]; rfl, belowN hA _⟩
    · have hd1 : decide ((1 : Int) < n) = false := decide_eq_false (by omega)
      have hd2 : decide ((2 : Int) < n) = false := decide_eq_false (by omega)
      clear hc1 hc2
      have HZ : Hid (fullX 4 128 191 n b1 b2 = false) := Lib.hid (decide_eq_false (by omega))
      go_enter Tryd.func84, Tryd.ntmps84
      go_wp2
      go_quiet (fail)
      go_wp2
      go_ret
      exact ⟨by rw [HZ.out]; rfl, belowN hA _⟩
set_option maxHeartbeats 1000000 in
set_option maxRecDepth 100000 in
theorem full_68 (b off n c b0 b1 b2 : Nat) (hpos : 0 < n) (h63 : n ≤ 9223372036854775807) (hb0 : b0 < 256) (w : World) (hc0 : w.cell? ⟨b, off, none⟩ = some (.int .u8 b0)) (hf : w.cell? ⟨2, b0, none⟩ = some (.int .u8 68))
    (hc1 : 1 < n → w.cell? ⟨b, off + 1, none⟩ = some (.int .u8 b1)) (hc2 : 2 < n → w.cell? ⟨b, off + 2, none⟩ = some (.int .u8 b2))
    (hl : w.cell? ⟨3, 8, none⟩ = some (.int .u8 128)) (hh : w.cell? ⟨3, 9, none⟩ = some (.int .u8 143)) (hbw : b < w.heap.size) :
    Calls Tryd.prog 84 #[.slice (some ⟨b, off, none⟩) n c] w fun e w' => e = .returned (.bool (fullX 68 128 143 n b1 b2)) ∧ Below w.heap.size w w' := by
  have hused := And.intro hc1 (And.intro hc2 hbw)
  clear hused
  have hnz : ((n : Int) == 0) = false := by simp; omega
  have hz0' : (b0 : Int) < 256 := by omega
  have hn0 : (0 : Int) < n := by omega
  by_cases hs : 4 ≤ n
  · have HZ : Hid (fullX 68 128 143 n b1 b2 = true) := Lib.hid (decide_eq_true (by omega))
    have hs' : (4 : Int) ≤ n := by omega
    clear hc1 hc2
    go_enter Tryd.func84, Tryd.ntmps84
    go_wp2
    go_ret
    exact ⟨by rw [HZ.out]; rfl, Below.refl _ _⟩
  · have hs' : ¬ (4 : Int) ≤ n := by omega
    have hsl : (n : Int) < 4 := by omega
    have hA : Below w.heap.size w (w.alloc (.cells #[.int .u8 128, .int .u8 143] 100)) := (Below.refl _ _).alloc (Nat.le_refl _) _
    by_cases h1 : 1 < n
    · have k1 := (hA.cell (p := ⟨b, off + 1, none⟩) hbw).trans (hc1 h1)
      have h1' : (1 : Int) < n := by omega
      by_cases g1 : b1 < 128
      · have HZ : Hid (fullX 68 128 143 n b1 b2 = true) := Lib.hid (decide_eq_true (by omega))
        have q0 : (b1 : Int) < 128 := by omega
        clear hc1 hc2
        go_enter Tryd.func84, Tryd.ntmps84
        go_wp2
        go_quiet (fail)
        go_wp2
        go_ret
        exact ⟨by rw [HZ.out]; rfl, belowN hA _⟩
      · by_cases g2 : 143 < b1
        · have HZ : Hid (fullX 68 128 143 n b1 b2 = true) := Lib.hid (decide_eq_true (by omega))
          have q0 : (143 : Int) < b1 := by omega
          have q1 : decide ((b1 : Int) < 128) = false := decide_eq_false (by omega)
          clear hc1 hc2
          go_enter Tryd.func84, Tryd.ntmps84
          go_wp2
          go_quiet (fail)
          go_wp2
          go_ret
          exact ⟨by rw [HZ.out]; rfl, belowN hA _⟩
        · by_cases h2 : 2 < n
          · have k2 := (hA.cell (p := ⟨b, off + 2, none⟩) hbw).trans (hc2 h2)
            have h2' : (2 : Int) < n := by omega
            by_cases g3 : b2 < 128
            · have HZ : Hid (fullX 68 128 143 n b1 b2 = true) := Lib.hid (decide_eq_true (by omega))
              have q0 : (b2 : Int) < 128 := by omega
              have q1 : decide ((143 : Int) < b1) = false := decide_eq_false (by omega)
              have q2 : decide ((b1 : Int) < 128) = false := decide_eq_false (by omega)
              clear hc1 hc2
              go_enter Tryd.func84, Tryd.ntmps84
              go_wp2
              go_quiet (fail)
              go_wp2
              go_ret
              exact ⟨by rw [HZ.out]; rfl, belowN hA _⟩
            · by_cases g4 : 191 < b2
              · have HZ : Hid (fullX 68 128 143 n b1 b2 = true) := Lib.hid (decide_eq_true (by omega))
                have q0 : (191 : Int) < b2 := by omega
                have q1 : decide ((b2 : Int) < 128) = false := decide_eq_false (by omega)
                have q2 : decide ((143 : Int) < b1) = false := decide_eq_false (by omega)
                have q3 : decide ((b1 : Int) < 128) = false := decide_eq_false (by omega)
                clear hc1 hc2
                go_enter Tryd.func84, Tryd.ntmps84
                go_wp2
                go_quiet (fail)
                go_wp2
                go_ret
                exact ⟨by rw [HZ.out]; rfl, belowN hA _⟩
              · have HZ : Hid (fullX 68 128 143 n b1 b2 = false) := Lib.hid (decide_eq_false (by omega))
                have q0 : decide ((191 : Int) < b2) = false := decide_eq_false (by omega)
                have q1 : decide ((b2 : Int) < 128) = false := decide_eq_false (by omega)
                have q2 : decide ((143 : Int) < b1) = false := decide_eq_false (by omega)
                have q3 : decide ((b1 : Int) < 128) = false := decide_eq_false (by omega)
                clear hc1 hc2
                go_enter Tryd.func84, Tryd.ntmps84
                go_wp2
                go_quiet (fail)
                go_wp2
                go_ret
                exact ⟨by rw [HZ.out]; rfl, belowN hA _⟩
          · have HZ : Hid (fullX 68 128 143 n b1 b2 = false) := Lib.hid (decide_eq_false (by omega))
            have q0 : decide ((2 : Int) < n) = false := decide_eq_false (by omega)
            have q1 : decide ((143 : Int) < b1) = false := decide_eq_false (by omega)
            have q2 : decide ((b1 : Int) < 128) = false := decide_eq_false (by omega)
            clear hc1 hc2
            go_enter Tryd.func84, Tryd.ntmps84
            go_wp2
            go_quiet (fail)
            go_wp2
            go_ret
            exact ⟨by rw [HZ.out]; rfl, belowN hA _⟩
    · have hd1 : decide ((1 : Int) < n) = false := decide_eq_false (by omega)
      have hd2 : decide ((2 : Int) < n) = false := decide_eq_false (by omega)
      clear hc1 hc2
      have HZ : Hid (fullX 68 128 143 n b1 b2 = false) := Lib.hid (decide_eq_false (by omega))
      go_enter Tryd.func84, Tryd.ntmps84
      go_wp2
      go_quiet (fail)
      go_wp2
      go_ret
      exact ⟨by rw [HZ.out]; rfl, belowN hA _⟩

set_option maxRecDepth 100000 in
theorem full_any (A : Option Addr) (zs : List Nat) (n c : Nat) (hn : n = zs.length) (h63 : n ≤ 9223372036854775807) (w : World) (hT : UT w) (hR : BS w w.heap.size A zs) :
    Calls Tryd.prog 84 #[.slice A n c] w fun e w' => e = .returned (.bool (fullB zs)) ∧ Below w.heap.size w w' := by
  by_cases h0 : zs = []
  · subst h0
    obtain rfl : n = 0 := hn
    exact full_nil A c w
  · obtain ⟨b, off, rfl, hb, hc⟩ := hR.2 h0
    have hpos : 0 < n := by rw [hn]; exact List.length_pos_iff.2 h0
    have hc0 : w.cell? ⟨b, off, none⟩ = some (.int .u8 (zs[0]?.getD 0 : Nat)) := hc 0 (by omega)
    have hz0 : zs[0]?.getD 0 < 256 := by rw [List.getElem?_eq_getElem (by omega)]; exact hR.1 _ (List.getElem_mem _)
    have hf := hT.1.1 _ hz0
    have hc1 : 1 < n → w.cell? ⟨b, off + 1, none⟩ = some (.int .u8 (zs[1]?.getD 0 : Nat)) := fun h => hc 1 (by omega)
    have hc2 : 2 < n → w.cell? ⟨b, off + 2, none⟩ = some (.int .u8 (zs[2]?.getD 0 : Nat)) := fun h => hc 2 (by omega)
    have hacc := hT.1.2
    unfold fullB fullN
    rw [← hn]
    generalize zs[0]?.getD 0 = b0 at *
    generalize zs[1]?.getD 0 = b1 at *
    generalize zs[2]?.getD 0 = b2 at *
    rcases Lib.firstT_cases b0 with hx | hx | hx | hx | hx | hx | hx | hx | hx
    all_goals rw [hx] at hf ⊢
    · have h := full_one 240 (.inl rfl) b off n c b0 hpos h63 hz0 w hc0 hf
      rw [show fullX 240 (Lib.accLo (240 / 16)) (Lib.accHi (240 / 16)) n b1 b2 = true from decide_eq_true ⟨by omega, .inl (by omega)⟩]
      exact h
    · have h := full_one 241 (.inr rfl) b off n c b0 hpos h63 hz0 w hc0 hf
      rw [show fullX 241 (Lib.accLo (241 / 16)) (Lib.accHi (241 / 16)) n b1 b2 = true from decide_eq_true ⟨by omega, .inl (by omega)⟩]
      exact h
    · exact full_2 b off n c b0 b1 b2 hpos h63 hz0 w hc0 hf hc1 hc2 (hacc 0 (by decide)).1 (hacc 0 (by decide)).2 hb
    · exact full_19 b off n c b0 b1 b2 hpos h63 hz0 w hc0 hf hc1 hc2 (hacc 1 (by decide)).1 (hacc 1 (by decide)).2 hb
    · exact full_3 b off n c b0 b1 b2 hpos h63 hz0 w hc0 hf hc1 hc2 (hacc 0 (by decide)).1 (hacc 0 (by decide)).2 hb
    · exact full_35 b off n c b0 b1 b2 hpos h63 hz0 w hc0 hf hc1 hc2 (hacc 2 (by decide)).1 (hacc 2 (by decide)).2 hb
    · exact full_52 b off n c b0 b1 b2 hpos h63 hz0 w hc0 hf hc1 hc2 (hacc 3 (by decide)).1 (hacc 3 (by decide)).2 hb
    · exact full_4 b off n c b0 b1 b2 hpos h63 hz0 w hc0 hf hc1 hc2 (hacc 0 (by decide)).1 (hacc 0 (by decide)).2 hb
    · exact full_68 b off n c b0 b1 b2 hpos h63 hz0 w hc0 hf hc1 hc2 (hacc 4 (by decide)).1 (hacc 4 (by decide)).2 hb

end Go.Proofs.YtoiekhjmfoodiaaDoor

namespace Go.Proofs
open Go.Shelf
def Tryd.lays732_ren : Go.Shelf.Ren := ⟨fun | 32 => 86 | 49 => 88 | n => n, fun | 30 => 54 | 21 => 21 | 3 => 3 | 0 => 0 | 5 => 5 | 4 => 4 | 33 => 85 | 66 => 98 | 25 => 102 | 69 => 101 | 68 => 100 | n => n, fun | 2 => 2 | 3 => 3 | n => n⟩
set_option maxRecDepth 100000 in
theorem Tryd.lays732 : Go.Proofs.Lays7.n32 Tryd.prog Tryd.lays732_ren := {
  mixed := by kernel_rfl
  f32 := Tryd.func86.trans (congrArg some (by kernel_rfl))
  f49 := Tryd.func88.trans (congrArg some (by kernel_rfl))
  t0 := Tryd.underlying0
  a0 := Tryd.isAgg0
  z0 := Tryd.sizeOf0
  v0 := Tryd.zeroValue0
  i0 := by kernel_rfl
  t3 := Tryd.underlying3
  a3 := Tryd.isAgg3
  z3 := Tryd.sizeOf3
  v3 := Tryd.zeroValue3
  i3 := by kernel_rfl
  t4 := Tryd.underlying4
  a4 := Tryd.isAgg4
  z4 := Tryd.sizeOf4
  v4 := Tryd.zeroValue4
  i4 := by kernel_rfl
  t5 := Tryd.underlying5
  a5 := Tryd.isAgg5
  z5 := Tryd.sizeOf5
  v5 := Tryd.zeroValue5
  i5 := by kernel_rfl
  t21 := Tryd.underlying21
  a21 := Tryd.isAgg21
  z21 := Tryd.sizeOf21
  v21 := Tryd.zeroValue21
  i21 := by kernel_rfl
  t25 := Tryd.underlying102
  a25 := Tryd.isAgg102
  z25 := Tryd.sizeOf102
  v25 := Tryd.zeroValue102
  i25 := by kernel_rfl
  t30 := Tryd.underlying54
  a30 := Tryd.isAgg54
  z30 := Tryd.sizeOf54
  v30 := Tryd.zeroValue54
  i30 := by kernel_rfl
  t33 := Tryd.underlying85
  a33 := Tryd.isAgg85
  z33 := Tryd.sizeOf85
  v33 := Tryd.zeroValue85
  i33 := by kernel_rfl
  t66 := Tryd.underlying98
  a66 := Tryd.isAgg98
  z66 := Tryd.sizeOf98
  t68 := Tryd.underlying100
  a68 := Tryd.isAgg100
  z68 := Tryd.sizeOf100
  v68 := Tryd.zeroValue100
  i68 := by kernel_rfl
  t69 := Tryd.underlying101
  a69 := Tryd.isAgg101
  z69 := Tryd.sizeOf101
  v69 := Tryd.zeroValue101
  i69 := by kernel_rfl
  g2 := by kernel_rfl
  g3 := by kernel_rfl }
set_option maxRecDepth 100000 in
theorem Tryd.decodeRune_any (s : ByteArray) (b off cap : Nat) (w : World) (hT : Lib.Utf8Tabs 2 3 w)
    (hp : ∀ j, j < s.size → w.cell? ⟨b, off + j, none⟩ = some (.int .u8 (s.get! j).toNat)) :
    Calls Tryd.prog 86 #[.slice (some ⟨b, off, none⟩) s.size cap] w fun e w' => e = .returned (.tuple #[.int .i32 (Lib.decodeGo s).1, .int .i64 (Lib.decodeGo s).2]) ∧ RowKit.Below w.heap.size w w' := Any7.utf8_DecodeRune Tryd.lays732 s b off cap w hT hp
end Go.Proofs

namespace Go.Proofs.YtoiekhjmfoodiaaDoor
open Go.RowKit

set_option maxRecDepth 100000 in
theorem BS.take {w : World} {B : Nat} {A : Option Addr} {zs : List Nat} (h : BS w B A zs) (m : Nat) : BS w B A (zs.take m) :=
  ⟨fun z hz => h.1 z (List.mem_of_mem_take hz), fun hn => by
    have hx : zs ≠ [] := by rintro rfl; exact hn (by simp)
    obtain ⟨b, off, rfl, hb, hc⟩ := h.2 hx
    refine ⟨b, off, rfl, hb, fun k hk => ?_⟩
    have hk' : k < m ∧ k < zs.length := by simp at hk; omega
    rw [List.getElem?_take, if_pos hk'.1]
    exact hc k hk'.2⟩
set_option maxRecDepth 100000 in
theorem firstT_le (b : Nat) : Lib.firstT b % 8 ≤ 4 := by
  rcases Lib.firstT_cases b with h | h | h | h | h | h | h | h | h <;> rw [h] <;> decide
set_option maxRecDepth 100000 in
theorem full4 (zs : List Nat) (h : 4 ≤ zs.length) : fullB (zs.take 4) = true := by
  have := firstT_le ((zs.take 4)[0]?.getD 0)
  have hl : (zs.take 4).length = 4 := by simp; omega
  unfold fullB fullN
  rw [hl]
  exact decide_eq_true ⟨by omega, .inl (by omega)⟩
/-- How many bytes the longest beginning has that stands ahead. -/
def begF (zs : List Nat) : Nat :=
  if zs.length ≤ 1 ∨ fullB (zs.take 2) = true then 1 else if zs.length ≤ 2 ∨ fullB (zs.take 3) = true then 2 else if zs.length ≤ 3 ∨ fullB (zs.take 4) = true then 3 else 4
set_option maxRecDepth 100000 in
theorem begF_is (zs : List Nat) (N : Nat) (h1 : 1 ≤ N) (hl : ∀ j, 1 ≤ j → j < N → j < zs.length ∧ fullB (zs.take (j + 1)) = false) (hN : zs.length ≤ N ∨ fullB (zs.take (N + 1)) = true) : N = begF zs := by
  have hN3 : N ≤ 3 := by
    rcases Nat.lt_or_ge 3 N with h | h
    · have := hl 3 (by omega) h
      rw [full4 zs (by omega)] at this
      exact absurd this.2 (by decide)
    · exact h
  unfold begF
  rcases (by omega : N = 1 ∨ N = 2 ∨ N = 3) with rfl | rfl | rfl
  · rw [if_pos (by rcases hN with h | h; exact .inl h; exact .inr h)]
  · have a := hl 1 (by omega) (by omega)
    rw [if_neg (by rintro (h | h); omega; rw [a.2] at h; cases h), if_pos (by rcases hN with h | h; exact .inl h; exact .inr h)]
  · have a := hl 1 (by omega) (by omega)
    have b := hl 2 (by omega) (by omega)
    rw [if_neg (by rintro (h | h); omega; rw [a.2] at h; cases h), if_neg (by rintro (h | h); omega; rw [b.2] at h; cases h), if_pos (by rcases hN with h | h; exact .inl h; exact .inr h)]

set_option maxHeartbeats 1000000 in
set_option maxRecDepth 100000 in
theorem beginning_any (A : Option Addr) (zs : List Nat) (n c : Nat) (hn : n = zs.length) (hcap : n ≤ c) (h63 : c ≤ 9223372036854775807) (w : World) (hT : UT w) (hR : BS w w.heap.size A zs) :
    Calls Tryd.prog 87 #[.slice A n c] w fun e w' => e = .returned (.int .i64 (begF zs)) ∧ Below w.heap.size w w' := by
  have HF : Hid (∀ W m, m ≤ n → Below w.heap.size w W → Calls Tryd.prog 84 #[.slice A m c] W fun e w' => e = .returned (.bool (fullB (zs.take m))) ∧ Below W.heap.size W w') := Lib.hid fun W m hm hW =>
    full_any A (zs.take m) m c (by simp; omega) (by omega) W (hT.below hW) (((hR.take m).below hW).more hW.size)
  have HN := Lib.hid hn
  clear hn hT hR
  go_enter Tryd.func87, Tryd.ntmps87
  go_wp2
  go_loopw [3] (fun i wr => ∃ k : Nat, 1 ≤ k ∧ k ≤ n + 1 ∧ i = .int .i64 k ∧ Hid (∀ j, 1 ≤ j → j < k → j < zs.length ∧ fullB (zs.take (j + 1)) = false) ∧ Hid (Below w.heap.size w wr)) (fun i _ => n + 1 - (intOf i).toNat)
  case atStart => exact ⟨1, Nat.le_refl _, by omega, rfl, Lib.hid (fun j h1 h2 => by omega), Lib.hid (Below.refl _ _)⟩
  case round =>
    obtain ⟨k, hk1, hkn, rfl, HK, hB⟩ := hrel
    by_cases hlt : k < n
    · have hf := HF.out wr (k + 1) (by omega) hB.out
      have hkc : k + 1 ≤ c := by omega
      have hki : (k : Int) + 1 ≤ c := by omega
      cases hq : fullB (zs.take (k + 1)) with
      | true =>
        have HZ : Hid (k = begF zs) := Lib.hid (begF_is zs k hk1 HK.out (.inr hq))
        rw [hq] at hf
        clear hq HK
        go_wp2_with (go_at_call 84; refine hf.mono ?_; clear hf; rintro e w3 ⟨rfl, hb3⟩; have HB3 : Hid (Below w.heap.size w w3) := Lib.hid (hB.out.trans (hb3.mono hB.out.size)); clear hb3)
        go_ret
        exact ⟨by rw [← HZ.out]; rfl, HB3.out⟩
      | false =>
        have HK' : Hid (∀ j, 1 ≤ j → j < k + 1 → j < zs.length ∧ fullB (zs.take (j + 1)) = false) := Lib.hid fun j h1 h2 => by
          rcases Nat.lt_or_ge j k with h | h
          · exact HK.out j h1 h
          · obtain rfl : j = k := by omega
            exact ⟨by rw [← HN.out]; exact hlt, hq⟩
        rw [hq] at hf
        clear hq HK
        go_wp2_with (go_at_call 84; refine hf.mono ?_; clear hf; rintro e w3 ⟨rfl, hb3⟩; have HB3 : Hid (Below w.heap.size w w3) := Lib.hid (hB.out.trans (hb3.mono hB.out.size)); clear hb3)
        go_roundw
        case rel => exact ⟨k + 1, by omega, by omega, by go_num, HK', HB3⟩
        case measure => simp [intOf]; omega
    · have HZ : Hid (k = begF zs) := Lib.hid (begF_is zs k hk1 HK.out (.inl (by rw [← HN.out]; omega)))
      clear HK
      go_wp2
      go_ret
      exact ⟨by rw [← HZ.out]; rfl, hB.out⟩

end Go.Proofs.YtoiekhjmfoodiaaDoor

namespace Go.Proofs.YtoiekhjmfoodiaaDoor
open Go.RowKit

/-- The bytes as the library's contract takes them. -/
def bytesOf (zs : List Nat) : ByteArray := ⟨(zs.map UInt8.ofNat).toArray⟩
set_option maxRecDepth 100000 in
theorem bytesOf_size (zs : List Nat) : (bytesOf zs).size = zs.length := by simp [bytesOf, ByteArray.size]
set_option maxRecDepth 100000 in
theorem bytesOf_get (zs : List Nat) (hz : ∀ z ∈ zs, z < 256) (j : Nat) : ((bytesOf zs).get! j).toNat = zs[j]?.getD 0 := by
  unfold bytesOf ByteArray.get!
  rcases Nat.lt_or_ge j zs.length with h | h
  · have hj := hz zs[j] (List.getElem_mem h)
    simp [h]
    omega
  · simp [List.getElem?_eq_none h]
    rfl
def decN (zs : List Nat) : Nat × Nat := Lib.decodeN zs.length (zs[0]?.getD 0) (zs[1]?.getD 0) (zs[2]?.getD 0) (zs[3]?.getD 0)
set_option maxRecDepth 100000 in
theorem decodeGo_eq (zs : List Nat) (hz : ∀ z ∈ zs, z < 256) (h0 : zs ≠ []) : Lib.decodeGo (bytesOf zs) = decN zs := by
  unfold Lib.decodeGo decN
  rw [bytesOf_size, if_neg (by have := List.length_pos_iff.2 h0; omega), Lib.decode_at, bytesOf_size]
  simp only [bytesOf_get zs hz, Nat.sub_zero, Nat.zero_add]
set_option maxRecDepth 100000 in
theorem decode_any (b off c : Nat) (zs : List Nat) (n : Nat) (hn : n = zs.length) (h0 : zs ≠ []) (w : World) (hT : UT w) (hR : BS w w.heap.size (some ⟨b, off, none⟩) zs) :
    Calls Tryd.prog 86 #[.slice (some ⟨b, off, none⟩) n c] w fun e w' => e = .returned (.tuple #[.int .i32 (decN zs).1, .int .i64 (decN zs).2]) ∧ Below w.heap.size w w' := by
  obtain ⟨b', off', e, hb, hc⟩ := hR.2 h0
  obtain ⟨rfl, rfl⟩ : b = b' ∧ off = off' := by simpa using e
  have h := Tryd.decodeRune_any (bytesOf zs) b off c w hT.1 (fun j hj => by
    rw [bytesOf_size] at hj
    rw [bytesOf_get zs hR.1]
    exact hc j hj)
  rw [bytesOf_size, decodeGo_eq zs hR.1 h0, ← hn] at h
  exact h
/-- What is read first, and how many bytes that is. -/
def firstF (zs : List Nat) : Nat × Nat := if (decN zs).1 = 65533 ∧ (decN zs).2 = 1 then (65533, begF zs) else decN zs

set_option maxHeartbeats 1000000 in
set_option maxRecDepth 100000 in
theorem first_any (b off c : Nat) (zs : List Nat) (n : Nat) (hn : n = zs.length) (h0 : zs ≠ []) (hcap : n ≤ c) (h63 : c ≤ 9223372036854775807) (w : World) (hT : UT w) (hR : BS w w.heap.size (some ⟨b, off, none⟩) zs) :
    Calls Tryd.prog 85 #[.slice (some ⟨b, off, none⟩) n c] w fun e w' => e = .returned (.tuple #[.int .i32 (firstF zs).1, .int .i64 (firstF zs).2]) ∧ Below w.heap.size w w' := by
  have hd := decode_any b off c zs n hn h0 w hT hR
  have HB : Hid (∀ W, Below w.heap.size w W → Calls Tryd.prog 87 #[.slice (some ⟨b, off, none⟩) n c] W fun e w' => e = .returned (.int .i64 (begF zs)) ∧ Below W.heap.size W w') := Lib.hid fun W hW =>
    beginning_any _ zs n c hn hcap h63 W (hT.below hW) ((hR.below hW).more hW.size)
  clear hn h0 hT hR
  by_cases hp : (decN zs).1 = 65533 ∧ (decN zs).2 = 1
  · have HZ : Hid (firstF zs = (65533, begF zs)) := Lib.hid (by unfold firstF; rw [if_pos hp])
    rw [hp.1, hp.2] at hd
    clear hp
    generalize begF zs = bf at *
    go_enter Tryd.func85, Tryd.ntmps85
    go_wp2_with (first | (go_at_call 86; refine hd.mono ?_; clear hd; rintro e w1 ⟨rfl, hb1⟩) | (go_at_call 87; refine (HB.out _ hb1).mono ?_; rintro e w2 ⟨rfl, hb2⟩))
    go_ret2
    exact ⟨by rw [HZ.out]; rfl, hb1.trans (hb2.mono hb1.size)⟩
  · have HZ : Hid (firstF zs = decN zs) := Lib.hid (by unfold firstF; rw [if_neg hp])
    obtain ⟨r, hr⟩ : ∃ r, r = (decN zs).1 := ⟨_, rfl⟩
    obtain ⟨k, hk⟩ : ∃ k, k = (decN zs).2 := ⟨_, rfl⟩
    have HE : Hid (decN zs = (r, k)) := Lib.hid (by rw [hr, hk])
    rw [← hr, ← hk] at hd hp
    clear hr hk
    by_cases h1 : r = 65533
    · have h2 : ¬ k = 1 := fun e => hp ⟨h1, e⟩
      have e1 : ((r : Int) == 65533) = true := by simp; omega
      have e2 : ((k : Int) == 1) = false := by simp; omega
      clear hp h1 h2
      go_enter Tryd.func85, Tryd.ntmps85
      go_wp2_with (go_at_call 86; refine hd.mono ?_; clear hd; rintro e w1 ⟨rfl, hb1⟩)
      go_ret2
      exact ⟨by rw [HZ.out, HE.out]; rfl, hb1⟩
    · have e1 : ((r : Int) == 65533) = false := by simp; omega
      clear hp h1
      go_enter Tryd.func85, Tryd.ntmps85
      go_wp2_with (go_at_call 86; refine hd.mono ?_; clear hd; rintro e w1 ⟨rfl, hb1⟩)
      go_ret2
      exact ⟨by rw [HZ.out, HE.out]; rfl, hb1⟩

end Go.Proofs.YtoiekhjmfoodiaaDoor

namespace Go.Proofs.YtoiekhjmfoodiaaDoor
open Go.RowKit Go.Shelf
attribute [local go_sem] Oper.semAt_some

set_option maxRecDepth 100000 in
theorem begF_bd (zs : List Nat) : 1 ≤ begF zs ∧ begF zs ≤ 4 ∧ (0 < zs.length → begF zs ≤ zs.length) := by
  unfold begF
  split
  · omega
  · split
    · rename_i h _; exact ⟨by omega, by omega, fun _ => by rcases Nat.lt_or_ge 1 zs.length with h1 | h1; omega; exact absurd (.inl h1) h⟩
    · rename_i h h2
      split
      · exact ⟨by omega, by omega, fun _ => by rcases Nat.lt_or_ge 2 zs.length with h1 | h1; omega; exact absurd (.inl h1) h2⟩
      · rename_i h3; exact ⟨by omega, by omega, fun _ => by rcases Nat.lt_or_ge 3 zs.length with h1 | h1; omega; exact absurd (.inl h1) h3⟩
set_option maxRecDepth 100000 in
theorem decN_bd (zs : List Nat) (h : 0 < zs.length) : 1 ≤ (decN zs).2 ∧ (decN zs).2 ≤ 4 ∧ (decN zs).2 ≤ zs.length := by
  unfold decN Lib.decodeN
  repeat' split
  all_goals (simp only; omega)
set_option maxRecDepth 100000 in
theorem firstF_bd (zs : List Nat) (h : 0 < zs.length) : 1 ≤ (firstF zs).2 ∧ (firstF zs).2 ≤ 4 ∧ (firstF zs).2 ≤ zs.length := by
  unfold firstF
  split
  · have := begF_bd zs; exact ⟨this.1, this.2.1, this.2.2 h⟩
  · exact decN_bd zs h
set_option maxRecDepth 100000 in
theorem fullB_pos {zs : List Nat} (h : fullB zs = true) : 0 < zs.length := by
  unfold fullB fullN fullX at h
  have := (of_decide_eq_true h).1
  omega
def rdN : Nat → List Nat → List (Nat × Nat)
  | 0, _ => []
  | f + 1, zs => if fullB zs = true then firstF zs :: rdN f (zs.drop (firstF zs).2) else []
/-- What is settled of bytes: each scalar, and how many bytes it has. -/
def rdL (zs : List Nat) : List (Nat × Nat) := rdN zs.length zs
set_option maxRecDepth 100000 in
theorem rdN_step : ∀ (f : Nat) (zs : List Nat), zs.length ≤ f → rdN f zs = rdN (f + 1) zs
  | 0, zs, h => by
    have h0 : zs = [] := List.eq_nil_of_length_eq_zero (by omega)
    subst h0
    rfl
  | f + 1, zs, h => by
    rw [rdN]
    rw [rdN]
    split
    · rename_i hf
      have hb := firstF_bd zs (fullB_pos hf)
      rw [rdN_step f (zs.drop (firstF zs).2) (by rw [List.length_drop]; omega)]
    · rfl
set_option maxRecDepth 100000 in
theorem rdN_all (zs : List Nat) (d : Nat) : rdN (zs.length + d) zs = rdL zs := by
  induction d with
  | zero => rfl
  | succ d ih => exact (rdN_step (zs.length + d) zs (by omega)).symm.trans ih
set_option maxRecDepth 100000 in
theorem rdL_yes (zs : List Nat) (h : fullB zs = true) : rdL zs = firstF zs :: rdL (zs.drop (firstF zs).2) := by
  have hb := firstF_bd zs (fullB_pos h)
  have e : rdL zs = rdN (zs.length - 1 + 1) zs := by rw [show zs.length - 1 + 1 = zs.length by omega]; rfl
  rw [e, rdN, if_pos h]
  have hl : (zs.drop (firstF zs).2).length = zs.length - (firstF zs).2 := List.length_drop
  have := rdN_all (zs.drop (firstF zs).2) (zs.length - 1 - (zs.drop (firstF zs).2).length)
  rw [show (zs.drop (firstF zs).2).length + (zs.length - 1 - (zs.drop (firstF zs).2).length) = zs.length - 1 by omega] at this
  rw [this]
set_option maxRecDepth 100000 in
theorem rdL_no (zs : List Nat) (h : fullB zs = false) : rdL zs = [] := by
  unfold rdL
  cases hl : zs.length with
  | zero => rfl
  | succ f => rw [rdN, if_neg (by rw [h]; decide)]

/-- What is handed on: no more than four bytes each. -/
def Sc : Type := { x : Nat × Nat // x.2 ≤ 4 }
def mkSc (r k : Nat) (h : k ≤ 4) : Sc := ⟨(r, k), h⟩
set_option maxRecDepth 100000 in
theorem map_mkSc (pre : List Sc) (r k : Nat) (h : k ≤ 4) : (pre ++ [mkSc r k h]).map (·.1) = pre.map (·.1) ++ [(r, k)] := by
  rw [List.map_append]; rfl
set_option maxRecDepth 100000 in
theorem grown_of_below {a w : World} (h : Below a.heap.size a w) : a.grownBy w none := ⟨h.os, h.tape, h.output, h.size, fun i hi _ => h.block i hi⟩
set_option maxRecDepth 100000 in
theorem abides_below {β : Type} {B : Nat} {J : β → World → Prop} (hJ : AbidesFrom B J) {s : β} {A C : World} (h : J s A) (hb : Below A.heap.size A C) : J s C :=
  hJ s A C none h (grown_of_below hb) (fun _ e => by cases e)
set_option maxRecDepth 100000 in
theorem BS.drop {w : World} {B b off : Nat} {zs : List Nat} (h : BS w B (some ⟨b, off, none⟩) zs) (i o' : Nat) (ho : i < zs.length → o' = off + i) : BS w B (some ⟨b, o', none⟩) (zs.drop i) :=
  ⟨fun z hz => h.1 z (List.mem_of_mem_drop hz), fun hn => by
    have hi : i < zs.length := by
      rcases Nat.lt_or_ge i zs.length with h1 | h1
      · exact h1
      · exact absurd (List.drop_of_length_le h1) hn
    have hx : zs ≠ [] := by rintro rfl; simp at hi
    obtain ⟨b', off', e, hb, hc⟩ := h.2 hx
    obtain ⟨rfl, rfl⟩ : b = b' ∧ off = off' := by simpa using e
    refine ⟨b, o', rfl, hb, fun k hk => ?_⟩
    have hk' : i + k < zs.length := by simp at hk; omega
    rw [ho hi, Nat.add_assoc, List.getElem?_drop]
    exact hc _ hk'⟩

set_option maxRecDepth 100000 in
set_option maxHeartbeats 2000000 in
theorem settled1_in (m : Nat) (hm : 1 ≤ m) (l Bs n₀ b off n c : Nat) (zs : List Nat) (hn : n = zs.length) (hcap : n ≤ c) (h63 : c ≤ 9223372036854775807) (hlen : n ≤ 2000000) (J Jx : List Sc → World → Prop)
    (hY : ∀ pre x W, J pre W → pre.length < n → YieldAt Fence.wide (m - 1) Tryd.prog l #[.int .i32 (x.1.1 : Nat), .int .i64 (x.1.2 : Nat)] W fun e W' =>
      (e = .returned (.bool true) ∧ J (pre ++ [x]) W' ∧ Below n₀ W W') ∨ (e = .returned (.bool false) ∧ Jx (pre ++ [x]) W'))
    (W : World) (h2 : max 2 3 + 1 ≤ n₀) (hn0 : n₀ ≤ W.heap.size) (hT : UT W) (hJa : AbidesFrom W.heap.size J) (hBs : W.cell? ⟨Bs, 0, none⟩ = some (.slice (some ⟨b, off, none⟩) n c))
    (hR : BS W n₀ (some ⟨b, off, none⟩) zs) (h0 : J [] W) :
    CallsIn Fence.wide m Tryd.prog 83 #[.func (.yield l) #[] #[], .pointer (some ⟨Bs, 0, none⟩)] W fun e W' => (∃ v, e = .returned v) ∧
      ((∃ ys : List Sc, ys.map (·.1) = rdL zs ∧ J ys W') ∨ (∃ pre : List Sc, pre.map (·.1) <+: rdL zs ∧ Jx pre W')) := by
  have HN := Lib.hid hn
  clear hn
  have HY := Lib.hid hY
  clear hY
  have HT : Hid (∀ W', Below n₀ W W' → UT W') := Lib.hid fun W' hW' => by
    refine ⟨⟨fun c hc => (hW'.cell (p := ⟨_, c, none⟩) (show 2 < n₀ by omega)).trans (hT.1.1 c hc), fun i hi => ⟨(hW'.cell (p := ⟨_, 2 * i, none⟩) (show 3 < n₀ by omega)).trans (hT.1.2 i hi).1, (hW'.cell (p := ⟨_, 2 * i + 1, none⟩) (show 3 < n₀ by omega)).trans (hT.1.2 i hi).2⟩⟩, Nat.lt_of_lt_of_le hT.2.1 hW'.size, Nat.lt_of_lt_of_le hT.2.2 hW'.size⟩
  have HR := Lib.hid hR
  clear hT hR
  refine callsIn_of_wp Tryd.func83 rfl trivial ?_ rfl
  simp only [Tryd.ntmps83, List.size_toArray, List.length_cons, List.length_nil, Nat.reduceAdd, Nat.reduceSub, Array.replicate_succ, Array.replicate_zero, List.push_toArray, List.append_toArray, List.nil_append, List.cons_append]
  gi_wp2
  gi_loopw [3] (fun v wr => ∃ (k o' : Nat) (pre : List Sc), k ≤ n ∧ pre.length ≤ k ∧ Hid (k < n → o' = off + k) ∧ v = .slice (some ⟨b, o', none⟩) (n - k) (c - k) ∧ Hid (rdL zs = pre.map (·.1) ++ rdL (zs.drop k)) ∧ J pre wr ∧ Hid (Below n₀ W wr))
    (fun v _ => match v with | .slice _ q _ => q | _ => 0)
  case atStart => exact ⟨0, off, [], by omega, by simp, Lib.hid (fun _ => rfl), rfl, Lib.hid rfl, h0, Lib.hid (Below.refl _ _)⟩
  case round =>
    obtain ⟨k, o', pre, hkn, hpk, HO, rfl, HK, hJs, hnx⟩ := hrel
    have hl : n - k = (zs.drop k).length := by rw [List.length_drop, ← HN.out]
    have hBr : BS wr wr.heap.size (some ⟨b, o', none⟩) (zs.drop k) := ((HR.out.below hnx.out).drop k o' (fun h => HO.out (by rw [HN.out]; exact h))).more (Nat.le_trans hn0 hnx.out.size)
    have hf := full_any (some ⟨b, o', none⟩) (zs.drop k) (n - k) (c - k) hl (by omega) wr (HT.out wr hnx.out) hBr
    cases hq : fullB (zs.drop k) with
    | false =>
      have HZ : Hid (pre.map (·.1) = rdL zs) := Lib.hid (by rw [HK.out, rdL_no _ hq, List.append_nil])
      rw [hq] at hf
      clear hq hl hBr HK
      gi_wp2_with (refine ⟨trivial, ?_⟩; gi_at_call 84; refine (callsIn_wide.2 hf).mono ?_; clear hf; rintro e w1 ⟨rfl, hb1⟩; have hJ1 := abides_below hJa hJs hb1)
      go_end0
      exact ⟨⟨_, rfl⟩, .inl ⟨pre, HZ.out, hJ1⟩⟩
    | true =>
      have hpos := fullB_pos hq
      obtain ⟨hm1, hm4, hmn⟩ := firstF_bd (zs.drop k) hpos
      rw [← hl] at hmn hpos
      have HF : Hid (∀ W', Below wr.heap.size wr W' → Calls Tryd.prog 85 #[.slice (some ⟨b, o', none⟩) (n - k) (c - k)] W' fun e w' => e = .returned (.tuple #[.int .i32 (firstF (zs.drop k)).1, .int .i64 (firstF (zs.drop k)).2]) ∧ Below W'.heap.size W' w') := Lib.hid fun W' hW' =>
        first_any b o' (c - k) (zs.drop k) (n - k) hl (by rintro e; rw [e] at hl; simp at hl; omega) (by omega) (by omega) W' (HT.out W' (hnx.out.trans (hW'.mono (Nat.le_trans hn0 hnx.out.size)))) ((hBr.below hW').more hW'.size)
      have HZ : Hid (rdL zs = (pre ++ [mkSc (firstF (zs.drop k)).1 (firstF (zs.drop k)).2 hm4]).map (·.1) ++ rdL (zs.drop (k + (firstF (zs.drop k)).2))) := Lib.hid (by
        rw [HK.out, rdL_yes _ hq, List.drop_drop, map_mkSc, List.append_assoc]; rfl)
      rw [hq] at hf
      clear hq hl hBr HK
      generalize (firstF (zs.drop k)).1 = r at *
      generalize (firstF (zs.drop k)).2 = fm at *
      gi_wp2_with (first | (refine ⟨trivial, ?_⟩; gi_at_call 84; refine (callsIn_wide.2 hf).mono ?_; clear hf; rintro e w1 ⟨rfl, hb1⟩; have hJ1 := abides_below hJa hJs hb1) | (refine ⟨trivial, ?_⟩; gi_at_call 85; refine (callsIn_wide.2 (HF.out _ hb1)).mono ?_; rintro e w2 ⟨rfl, hb2⟩; have hJ2 := abides_below hJa hJ1 hb2; obtain ⟨fn, tmps, assign, body, hy, hR⟩ := HY.out pre (mkSc r fm hm4) w2 hJ2 (by omega); dsimp only [mkSc] at hy))
      have HB2 : Hid (Below n₀ W w2) := Lib.hid (hnx.out.trans ((hb1.trans (hb2.mono hb1.size)).mono (Nat.le_trans hn0 hnx.out.size)))
      clear hJs hJ1 hJ2 hb1 hb2 HF
      refine hR.mono ?_
      rintro e W3 (⟨rfl, hJ4, hk4⟩ | ⟨rfl, hJx4⟩)
      · have HB3 : Hid (Below n₀ W W3) := Lib.hid (HB2.out.trans hk4)
        have hmi : (fm : Int) ≤ (n - k : Nat) := by omega
        have hmc : fm ≤ c - k := by omega
        by_cases hcm : c - k = fm
        · have hO' : Hid (k + fm < n → o' = off + (k + fm)) := Lib.hid fun h => by omega
          gi_wp2
          go_roundw
          case rel => exact ⟨k + fm, o', pre ++ [mkSc r fm hm4], by omega, by simp; omega, hO', by rw [Nat.sub_add_eq, Nat.sub_add_eq, show c - k - fm = 0 by omega], HZ, hJ4, HB3⟩
          case measure => show n - k - fm < n - k; omega
        · have hO' : Hid (k + fm < n → o' + fm = off + (k + fm)) := Lib.hid fun h => by rw [HO.out (by omega), Nat.add_assoc]
          gi_wp2
          go_roundw
          case rel => exact ⟨k + fm, o' + fm, pre ++ [mkSc r fm hm4], by omega, by simp; omega, hO', by rw [Nat.sub_add_eq, Nat.sub_add_eq], HZ, hJ4, HB3⟩
          case measure => show n - k - fm < n - k; omega
      · gi_wp2
        refine bodyPost_ret (results_none rfl _ _ _) rfl ?_
        exact ⟨⟨_, rfl⟩, .inr ⟨_, by rw [HZ.out]; exact List.prefix_append _ _, hJx4⟩⟩

set_option maxRecDepth 100000 in
set_option maxHeartbeats 1000000 in
theorem settled1_nil (m : Nat) (hm : 1 ≤ m) (l Bs c : Nat) (A : Option Addr) (J : List Sc → World → Prop) (W : World) (hBs : W.cell? ⟨Bs, 0, none⟩ = some (.slice A 0 c)) (hJa : AbidesFrom W.heap.size J) (h0 : J [] W) :
    CallsIn Fence.wide m Tryd.prog 83 #[.func (.yield l) #[] #[], .pointer (some ⟨Bs, 0, none⟩)] W fun e W' => (∃ v, e = .returned v) ∧ J [] W' := by
  refine callsIn_of_wp Tryd.func83 rfl trivial ?_ rfl
  simp only [Tryd.ntmps83, List.size_toArray, List.length_cons, List.length_nil, Nat.reduceAdd, Nat.reduceSub, Array.replicate_succ, Array.replicate_zero, List.push_toArray, List.append_toArray, List.nil_append, List.cons_append]
  gi_wp2
  gi_loopw [3] (fun v wr => v = .slice A 0 c ∧ wr = W) (fun _ _ => 0)
  case atStart => exact ⟨rfl, rfl⟩
  case round =>
    obtain ⟨rfl, rfl⟩ := hrel
    have hf := full_nil A c wr
    gi_wp2_with (refine ⟨trivial, ?_⟩; gi_at_call 84; refine (callsIn_wide.2 hf).mono ?_; clear hf; rintro e w1 ⟨rfl, hb1⟩; have hJ1 := abides_below hJa h0 hb1)
    go_end0
    exact ⟨⟨_, rfl⟩, hJ1⟩

set_option maxHeartbeats 1000000 in
set_option maxRecDepth 100000 in
theorem settled_in (m : Nat) (A : Option Addr) (n c : Nat) (w : World) :
    CallsIn Fence.wide m Tryd.prog 82 #[.slice A n c] w fun e w' => e = .returned (.func (.func 83) #[] #[.pointer (some ⟨w.heap.size, 0, none⟩)]) ∧ w' = w.alloc (.cells #[.slice A n c] 54) := by
  refine callsIn_of_wp Tryd.func82 rfl trivial ?_ rfl
  simp only [Tryd.ntmps82, List.size_toArray, List.length_cons, List.length_nil, Nat.reduceAdd, Nat.reduceSub, Array.replicate_succ, Array.replicate_zero, List.push_toArray, List.append_toArray, List.nil_append, List.cons_append]
  gi_wp2
  go_ret
  exact ⟨rfl, rfl⟩

set_option maxRecDepth 100000 in
theorem settled_stops (m : Nat) (hm : 1 ≤ m) (Bs n₀ : Nat) (A : Option Addr) (zs : List Nat) (c : Nat) (hcap : zs.length ≤ c) (h63 : c ≤ 9223372036854775807) (hlen : zs.length ≤ 2000000) (w : World) (h2 : max 2 3 + 1 ≤ n₀) (hn0 : n₀ ≤ w.heap.size) (hBn : Bs < w.heap.size)
    (hT : UT w) (hR : BS w n₀ A zs) (hBs : w.cell? ⟨Bs, 0, none⟩ = some (.slice A zs.length c)) :
    SeqStopsK Fence.wide m Tryd.prog 83 #[.pointer (some ⟨Bs, 0, none⟩)] (fun x : Sc => #[.int .i32 (x.1.1 : Nat), .int .i64 (x.1.2 : Nat)]) (Below n₀) (fun ys => ys.map (·.1) = rdL zs) (fun pre => pre.map (·.1) <+: rdL zs) zs.length w := by
  intro l J Jx W hW hJ hJx hY h0
  have hBs' := (hW.cell (p := ⟨Bs, 0, none⟩) hBn).trans hBs
  by_cases hx : zs = []
  · subst hx
    refine (settled1_nil m hm l Bs c A J W hBs' hJ h0).mono ?_
    rintro e W' ⟨he, hj⟩
    exact ⟨he, .inl ⟨[], rfl, hj⟩⟩
  · obtain ⟨b, off, rfl, _, _⟩ := hR.2 hx
    exact settled1_in m hm l Bs n₀ b off zs.length c zs rfl hcap h63 hlen J Jx hY W h2 (Nat.le_trans hn0 hW.size) (hT.below hW) hJ hBs' (hR.below (hW.mono hn0)) h0

end Go.Proofs.YtoiekhjmfoodiaaDoor
