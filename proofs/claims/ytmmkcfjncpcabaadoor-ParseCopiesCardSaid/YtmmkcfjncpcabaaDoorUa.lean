/- The walks of utf8.FullRune and utf.beginning. -/
import Derived.Test.YtmmkcfjncpcabaaDoorProg
import Derived.WalkKit
import Derived.WalkSpells
import Derived.WalkLawsBesides
import Derived.Lib.Hide
import Derived.StillTailTactics
import Derived.Deep.QuietTactic
import Derived.BigQuiet
import Derived.Deep.WholeRow
import Derived.Shelf.Unicode.DecodeSlow
namespace Go.Proofs.YtmmkcfjncpcabaaDoor
open Go.RowKit

/-- The tables of unicode/utf8 lie where the program's variables lie. -/
def UT (w : World) : Prop := Lib.Utf8Tabs 0 1 w ∧ 0 < w.heap.size ∧ 1 < w.heap.size
theorem UT.below {w w' : World} (h : UT w) (hb : Below w.heap.size w w') : UT w' :=
  ⟨⟨fun c hc => (hb.cell (p := ⟨_, c, none⟩) h.2.1).trans (h.1.1 c hc), fun i hi => ⟨(hb.cell (p := ⟨_, 2 * i, none⟩) h.2.2).trans (h.1.2 i hi).1, (hb.cell (p := ⟨_, 2 * i + 1, none⟩) h.2.2).trans (h.1.2 i hi).2⟩⟩, Nat.lt_of_lt_of_le h.2.1 hb.size, Nat.lt_of_lt_of_le h.2.2 hb.size⟩

/-- The slice value '.slice A zs.length c' reads as the bytes zs; it lies below block B. -/
def BS (w : World) (B : Nat) (A : Option Addr) (zs : List Nat) : Prop :=
  (∀ z ∈ zs, z < 256) ∧ (zs ≠ [] → ∃ b off, A = some ⟨b, off, none⟩ ∧ b < B ∧ ∀ k, k < zs.length → w.cell? ⟨b, off + k, none⟩ = some (.int .u8 (zs[k]?.getD 0)))
theorem BS.below {w w' : World} {B : Nat} {A : Option Addr} {zs : List Nat} (h : BS w B A zs) (hb : Below B w w') : BS w' B A zs := ⟨h.1, fun hn => by
  obtain ⟨b, off, e, hlt, hc⟩ := h.2 hn
  exact ⟨b, off, e, hlt, fun k hk => (hb.cell (p := ⟨b, off + k, none⟩) hlt).trans (hc k hk)⟩⟩
theorem BS.more {w : World} {B B' : Nat} {A : Option Addr} {zs : List Nat} (h : BS w B A zs) (hB : B ≤ B') : BS w B' A zs := ⟨h.1, fun hn => by
  obtain ⟨b, off, e, hlt, hc⟩ := h.2 hn
  exact ⟨b, off, e, Nat.lt_of_lt_of_le hlt hB, hc⟩⟩

/-- Do bytes begin with what is no beginning? (x: what the table says of the first one; n: how many there are; b1, b2: the next ones.) -/
def fullX (x lo hi n b1 b2 : Nat) : Bool := decide (n ≠ 0 ∧ (x % 8 ≤ n ∨ (1 < n ∧ (b1 < lo ∨ hi < b1)) ∨ (2 < n ∧ (b2 < 128 ∨ 191 < b2))))
def fullN (n b0 b1 b2 : Nat) : Bool := fullX (Lib.firstT b0) (Lib.accLo (Lib.firstT b0 / 16)) (Lib.accHi (Lib.firstT b0 / 16)) n b1 b2
def fullB (zs : List Nat) : Bool := fullN zs.length (zs[0]?.getD 0) (zs[1]?.getD 0) (zs[2]?.getD 0)

theorem belowN {B : Nat} {a w : World} (h : Below B a w) (n : Nat) : Below B a (w.drewN n) := ⟨h.os, h.tape, h.output, h.size, h.block⟩
theorem full_nil (A : Option Addr) (c : Nat) (w : World) : Calls Tryd.prog 87 #[.slice A 0 c] w fun e w' => e = .returned (.bool false) ∧ Below w.heap.size w w' := by
  go_enter Tryd.func87, Tryd.ntmps87
  go_wp2
  go_ret
  exact ⟨rfl, Below.refl _ _⟩
set_option maxHeartbeats 1000000 in
theorem full_one (x : Nat) (hx : x = 240 ∨ x = 241) (b off n c b0 : Nat) (hpos : 0 < n) (h63 : n ≤ 9223372036854775807) (hb0 : b0 < 256) (w : World) (hc0 : w.cell? ⟨b, off, none⟩ = some (.int .u8 b0)) (hf : w.cell? ⟨0, b0, none⟩ = some (.int .u8 x)) :
    Calls Tryd.prog 87 #[.slice (some ⟨b, off, none⟩) n c] w fun e w' => e = .returned (.bool true) ∧ Below w.heap.size w w' := by
  have hnz : ((n : Int) == 0) = false := by simp; omega
  have hz0' : (b0 : Int) < 256 := by omega
  have hn1 : (1 : Int) ≤ n := by omega
  have hn0 : (0 : Int) < n := by omega
  rcases hx with rfl | rfl
  all_goals
    go_enter Tryd.func87, Tryd.ntmps87
    go_wp2
    go_ret
    exact ⟨rfl, Below.refl _ _⟩
set_option maxHeartbeats 1000000 in
theorem full_2 (b off n c b0 b1 b2 : Nat) (hpos : 0 < n) (h63 : n ≤ 9223372036854775807) (hb0 : b0 < 256) (w : World) (hc0 : w.cell? ⟨b, off, none⟩ = some (.int .u8 b0)) (hf : w.cell? ⟨0, b0, none⟩ = some (.int .u8 2))
    (hc1 : 1 < n → w.cell? ⟨b, off + 1, none⟩ = some (.int .u8 b1)) (hc2 : 2 < n → w.cell? ⟨b, off + 2, none⟩ = some (.int .u8 b2))
    (hl : w.cell? ⟨1, 0, none⟩ = some (.int .u8 128)) (hh : w.cell? ⟨1, 1, none⟩ = some (.int .u8 191)) (hbw : b < w.heap.size) :
    Calls Tryd.prog 87 #[.slice (some ⟨b, off, none⟩) n c] w fun e w' => e = .returned (.bool (fullX 2 128 191 n b1 b2)) ∧ Below w.heap.size w w' := by
  have hused := And.intro hc1 (And.intro hc2 hbw)
  clear hused
  have hnz : ((n : Int) == 0) = false := by simp; omega
  have hz0' : (b0 : Int) < 256 := by omega
  have hn0 : (0 : Int) < n := by omega
  by_cases hs : 2 ≤ n
  · have HZ : Hid (fullX 2 128 191 n b1 b2 = true) := Lib.hid (decide_eq_true (by omega))
    have hs' : (2 : Int) ≤ n := by omega
    clear hc1 hc2
    go_enter Tryd.func87, Tryd.ntmps87
    go_wp2
    go_ret
    exact ⟨by rw [HZ.out]; rfl, Below.refl _ _⟩
  · have hs' : ¬ (2 : Int) ≤ n := by omega
    have hsl : (n : Int) < 2 := by omega
    have hA : Below w.heap.size w (w.alloc (.cells #[.int .u8 128, .int .u8 191] 112)) := (Below.refl _ _).alloc (Nat.le_refl _) _
    by_cases h1 : 1 < n
    · exfalso; omega
    · have hd1 : decide ((1 : Int) < n) = false := decide_eq_false (by omega)
      have hd2 : decide ((2 : Int) < n) = false := decide_eq_false (by omega)
      clear hc1 hc2
      have HZ : Hid (fullX 2 128 191 n b1 b2 = false) := Lib.hid (decide_eq_false (by omega))
      go_enter Tryd.func87, Tryd.ntmps87
      go_wp2
      go_quiet (fail)
      go_wp2
      go_ret
      exact ⟨by rw [HZ.out]; rfl, belowN hA _⟩
set_option maxHeartbeats 1000000 in
theorem full_19 (b off n c b0 b1 b2 : Nat) (hpos : 0 < n) (h63 : n ≤ 9223372036854775807) (hb0 : b0 < 256) (w : World) (hc0 : w.cell? ⟨b, off, none⟩ = some (.int .u8 b0)) (hf : w.cell? ⟨0, b0, none⟩ = some (.int .u8 19))
    (hc1 : 1 < n → w.cell? ⟨b, off + 1, none⟩ = some (.int .u8 b1)) (hc2 : 2 < n → w.cell? ⟨b, off + 2, none⟩ = some (.int .u8 b2))
    (hl : w.cell? ⟨1, 2, none⟩ = some (.int .u8 160)) (hh : w.cell? ⟨1, 3, none⟩ = some (.int .u8 191)) (hbw : b < w.heap.size) :
    Calls Tryd.prog 87 #[.slice (some ⟨b, off, none⟩) n c] w fun e w' => e = .returned (.bool (fullX 19 160 191 n b1 b2)) ∧ Below w.heap.size w w' := by
  have hused := And.intro hc1 (And.intro hc2 hbw)
  clear hused
  have hnz : ((n : Int) == 0) = false := by simp; omega
  have hz0' : (b0 : Int) < 256 := by omega
  have hn0 : (0 : Int) < n := by omega
  by_cases hs : 3 ≤ n
  · have HZ : Hid (fullX 19 160 191 n b1 b2 = true) := Lib.hid (decide_eq_true (by omega))
    have hs' : (3 : Int) ≤ n := by omega
    clear hc1 hc2
    go_enter Tryd.func87, Tryd.ntmps87
    go_wp2
    go_ret
    exact ⟨by rw [HZ.out]; rfl, Below.refl _ _⟩
  · have hs' : ¬ (3 : Int) ≤ n := by omega
    have hsl : (n : Int) < 3 := by omega
    have hA : Below w.heap.size w (w.alloc (.cells #[.int .u8 160, .int .u8 191] 112)) := (Below.refl _ _).alloc (Nat.le_refl _) _
    by_cases h1 : 1 < n
    · have k1 := (hA.cell (p := ⟨b, off + 1, none⟩) hbw).trans (hc1 h1)
      have h1' : (1 : Int) < n := by omega
      by_cases g1 : b1 < 160
      · have HZ : Hid (fullX 19 160 191 n b1 b2 = true) := Lib.hid (decide_eq_true (by omega))
        have q0 : (b1 : Int) < 160 := by omega
        clear hc1 hc2
        go_enter Tryd.func87, Tryd.ntmps87
        go_wp2
        go_quiet (fail)
        go_wp2
        go_ret
        exact ⟨by rw [HZ.out]; rfl, belowN hA _⟩
      · by_cases g2 : 191 < b1
        · have HZ : Hid (fullX 19 160 191 n b1 b2 = true) := Lib.hid (decide_eq_true (by omega))
          have q0 : (191 : Int) < b1 := by omega
          have q1 : decide ((b1 : Int) < 160) = false := decide_eq_false (by omega)
          clear hc1 hc2
          go_enter Tryd.func87, Tryd.ntmps87
          go_wp2
          go_quiet (fail)
          go_wp2
          go_ret
          exact ⟨by rw [HZ.out]; rfl, belowN hA _⟩
        · have HZ : Hid (fullX 19 160 191 n b1 b2 = false) := Lib.hid (decide_eq_false (by omega))
          have q0 : decide ((191 : Int) < b1) = false := decide_eq_false (by omega)
          have q1 : decide ((b1 : Int) < 160) = false := decide_eq_false (by omega)
          have q2 : decide ((2 : Int) < n) = false := decide_eq_false (by omega)
          clear hc1 hc2
          go_enter Tryd.func87, Tryd.ntmps87
          go_wp2
          go_quiet (fail)
          go_wp2
          go_ret
          exact ⟨by rw [HZ.out]; rfl, belowN hA _⟩
    · have hd1 : decide ((1 : Int) < n) = false := decide_eq_false (by omega)
      have hd2 : decide ((2 : Int) < n) = false := decide_eq_false (by omega)
      clear hc1 hc2
      have HZ : Hid (fullX 19 160 191 n b1 b2 = false) := Lib.hid (decide_eq_false (by omega))
      go_enter Tryd.func87, Tryd.ntmps87
      go_wp2
      go_quiet (fail)
      go_wp2
      go_ret
      exact ⟨by rw [HZ.out]; rfl, belowN hA _⟩
set_option maxHeartbeats 1000000 in
theorem full_3 (b off n c b0 b1 b2 : Nat) (hpos : 0 < n) (h63 : n ≤ 9223372036854775807) (hb0 : b0 < 256) (w : World) (hc0 : w.cell? ⟨b, off, none⟩ = some (.int .u8 b0)) (hf : w.cell? ⟨0, b0, none⟩ = some (.int .u8 3))
    (hc1 : 1 < n → w.cell? ⟨b, off + 1, none⟩ = some (.int .u8 b1)) (hc2 : 2 < n → w.cell? ⟨b, off + 2, none⟩ = some (.int .u8 b2))
    (hl : w.cell? ⟨1, 0, none⟩ = some (.int .u8 128)) (hh : w.cell? ⟨1, 1, none⟩ = some (.int .u8 191)) (hbw : b < w.heap.size) :
    Calls Tryd.prog 87 #[.slice (some ⟨b, off, none⟩) n c] w fun e w' => e = .returned (.bool (fullX 3 128 191 n b1 b2)) ∧ Below w.heap.size w w' := by
  have hused := And.intro hc1 (And.intro hc2 hbw)
  clear hused
  have hnz : ((n : Int) == 0) = false := by simp; omega
  have hz0' : (b0 : Int) < 256 := by omega
  have hn0 : (0 : Int) < n := by omega
  by_cases hs : 3 ≤ n
  · have HZ : Hid (fullX 3 128 191 n b1 b2 = true) := Lib.hid (decide_eq_true (by omega))
    have hs' : (3 : Int) ≤ n := by omega
    clear hc1 hc2
    go_enter Tryd.func87, Tryd.ntmps87
    go_wp2
    go_ret
    exact ⟨by rw [HZ.out]; rfl, Below.refl _ _⟩
  · have hs' : ¬ (3 : Int) ≤ n := by omega
    have hsl : (n : Int) < 3 := by omega
    have hA : Below w.heap.size w (w.alloc (.cells #[.int .u8 128, .int .u8 191] 112)) := (Below.refl _ _).alloc (Nat.le_refl _) _
    by_cases h1 : 1 < n
    · have k1 := (hA.cell (p := ⟨b, off + 1, none⟩) hbw).trans (hc1 h1)
      have h1' : (1 : Int) < n := by omega
      by_cases g1 : b1 < 128
      · have HZ : Hid (fullX 3 128 191 n b1 b2 = true) := Lib.hid (decide_eq_true (by omega))
        have q0 : (b1 : Int) < 128 := by omega
        clear hc1 hc2
        go_enter Tryd.func87, Tryd.ntmps87
        go_wp2
        go_quiet (fail)
        go_wp2
        go_ret
        exact ⟨by rw [HZ.out]; rfl, belowN hA _⟩
      · by_cases g2 : 191 < b1
        · have HZ : Hid (fullX 3 128 191 n b1 b2 = true) := Lib.hid (decide_eq_true (by omega))
          have q0 : (191 : Int) < b1 := by omega
          have q1 : decide ((b1 : Int) < 128) = false := decide_eq_false (by omega)
          clear hc1 hc2
          go_enter Tryd.func87, Tryd.ntmps87
          go_wp2
          go_quiet (fail)
          go_wp2
          go_ret
          exact ⟨by rw [HZ.out]; rfl, belowN hA _⟩
        · have HZ : Hid (fullX 3 128 191 n b1 b2 = false) := Lib.hid (decide_eq_false (by omega))
          have q0 : decide ((191 : Int) < b1) = false := decide_eq_false (by omega)
          have q1 : decide ((b1 : Int) < 128) = false := decide_eq_false (by omega)
          have q2 : decide ((2 : Int) < n) = false := decide_eq_false (by omega)
          clear hc1 hc2
          go_enter Tryd.func87, Tryd.ntmps87
          go_wp2
          go_quiet (fail)
          go_wp2
          go_ret
          exact ⟨by rw [HZ.out]; rfl, belowN hA _⟩
    · have hd1 : decide ((1 : Int) < n) = false := decide_eq_false (by omega)
      have hd2 : decide ((2 : Int) < n) = false := decide_eq_false (by omega)
      clear hc1 hc2
      have HZ : Hid (fullX 3 128 191 n b1 b2 = false) := Lib.hid (decide_eq_false (by omega))
      go_enter Tryd.func87, Tryd.ntmps87
      go_wp2
      go_quiet (fail)
      go_wp2
      go_ret
      exact ⟨by rw [HZ.out]; rfl, belowN hA _⟩
set_option maxHeartbeats 1000000 in
theorem full_35 (b off n c b0 b1 b2 : Nat) (hpos : 0 < n) (h63 : n ≤ 9223372036854775807) (hb0 : b0 < 256) (w : World) (hc0 : w.cell? ⟨b, off, none⟩ = some (.int .u8 b0)) (hf : w.cell? ⟨0, b0, none⟩ = some (.int .u8 35))
    (hc1 : 1 < n → w.cell? ⟨b, off + 1, none⟩ = some (.int .u8 b1)) (hc2 : 2 < n → w.cell? ⟨b, off + 2, none⟩ = some (.int .u8 b2))
    (hl : w.cell? ⟨1, 4, none⟩ = some (.int .u8 128)) (hh : w.cell? ⟨1, 5, none⟩ = some (.int .u8 159)) (hbw : b < w.heap.size) :
    Calls Tryd.prog 87 #[.slice (some ⟨b, off, none⟩) n c] w fun e w' => e = .returned (.bool (fullX 35 128 159 n b1 b2)) ∧ Below w.heap.size w w' := by
  have hused := And.intro hc1 (And.intro hc2 hbw)
  clear hused
  have hnz : ((n : Int) == 0) = false := by simp; omega
  have hz0' : (b0 : Int) < 256 := by omega
  have hn0 : (0 : Int) < n := by omega
  by_cases hs : 3 ≤ n
  · have HZ : Hid (fullX 35 128 159 n b1 b2 = true) := Lib.hid (decide_eq_true (by omega))
    have hs' : (3 : Int) ≤ n := by omega
    clear hc1 hc2
    go_enter Tryd.func87, Tryd.ntmps87
    go_wp2
    go_ret
    exact ⟨by rw [HZ.out]; rfl, Below.refl _ _⟩
  · have hs' : ¬ (3 : Int) ≤ n := by omega
    have hsl : (n : Int) < 3 := by omega
    have hA : Below w.heap.size w (w.alloc (.cells #[.int .u8 128, .int .u8 159] 112)) := (Below.refl _ _).alloc (Nat.le_refl _) _
    by_cases h1 : 1 < n
    · have k1 := (hA.cell (p := ⟨b, off + 1, none⟩) hbw).trans (hc1 h1)
      have h1' : (1 : Int) < n := by omega
      by_cases g1 : b1 < 128
      · have HZ : Hid (fullX 35 128 159 n b1 b2 = true) := Lib.hid (decide_eq_true (by omega))
        have q0 : (b1 : Int) < 128 := by omega
        clear hc1 hc2
        go_enter Tryd.func87, Tryd.ntmps87
        go_wp2
        go_quiet (fail)
        go_wp2
        go_ret
        exact ⟨by rw [HZ.out]; rfl, belowN hA _⟩
      · by_cases g2 : 159 < b1
        · have HZ : Hid (fullX 35 128 159 n b1 b2 = true) := Lib.hid (decide_eq_true (by omega))
          have q0 : (159 : Int) < b1 := by omega
          have q1 : decide ((b1 : Int) < 128) = false := decide_eq_false (by omega)
          clear hc1 hc2
          go_enter Tryd.func87, Tryd.ntmps87
          go_wp2
          go_quiet (fail)
          go_wp2
          go_ret
          exact ⟨by rw [HZ.out]; rfl, belowN hA _⟩
        · have HZ : Hid (fullX 35 128 159 n b1 b2 = false) := Lib.hid (decide_eq_false (by omega))
          have q0 : decide ((159 : Int) < b1) = false := decide_eq_false (by omega)
          have q1 : decide ((b1 : Int) < 128) = false := decide_eq_false (by omega)
          have q2 : decide ((2 : Int) < n) = false := decide_eq_false (by omega)
          clear hc1 hc2
          go_enter Tryd.func87, Tryd.ntmps87
          go_wp2
          go_quiet (fail)
          go_wp2
          go_ret
          exact ⟨by rw [HZ.out]; rfl, belowN hA _⟩
    · have hd1 : decide ((1 : Int) < n) = false := decide_eq_false (by omega)
      have hd2 : decide ((2 : Int) < n) = false := decide_eq_false (by omega)
      clear hc1 hc2
      have HZ : Hid (fullX 35 128 159 n b1 b2 = false) := Lib.hid (decide_eq_false (by omega))
      go_enter Tryd.func87, Tryd.ntmps87
      go_wp2
      go_quiet (fail)
      go_wp2
      go_ret
      exact ⟨by rw [HZ.out]; rfl, belowN hA _⟩
set_option maxHeartbeats 1000000 in
theorem full_52 (b off n c b0 b1 b2 : Nat) (hpos : 0 < n) (h63 : n ≤ 9223372036854775807) (hb0 : b0 < 256) (w : World) (hc0 : w.cell? ⟨b, off, none⟩ = some (.int .u8 b0)) (hf : w.cell? ⟨0, b0, none⟩ = some (.int .u8 52))
    (hc1 : 1 < n → w.cell? ⟨b, off + 1, none⟩ = some (.int .u8 b1)) (hc2 : 2 < n → w.cell? ⟨b, off + 2, none⟩ = some (.int .u8 b2))
    (hl : w.cell? ⟨1, 6, none⟩ = some (.int .u8 144)) (hh : w.cell? ⟨1, 7, none⟩ = some (.int .u8 191)) (hbw : b < w.heap.size) :
    Calls Tryd.prog 87 #[.slice (some ⟨b, off, none⟩) n c] w fun e w' => e = .returned (.bool (fullX 52 144 191 n b1 b2)) ∧ Below w.heap.size w w' := by
  have hused := And.intro hc1 (And.intro hc2 hbw)
  clear hused
  have hnz : ((n : Int) == 0) = false := by simp; omega
  have hz0' : (b0 : Int) < 256 := by omega
  have hn0 : (0 : Int) < n := by omega
  by_cases hs : 4 ≤ n
  · have HZ : Hid (fullX 52 144 191 n b1 b2 = true) := Lib.hid (decide_eq_true (by omega))
    have hs' : (4 : Int) ≤ n := by omega
    clear hc1 hc2
    go_enter Tryd.func87, Tryd.ntmps87
    go_wp2
    go_ret
    exact ⟨by rw [HZ.out]; rfl, Below.refl _ _⟩
  · have hs' : ¬ (4 : Int) ≤ n := by omega
    have hsl : (n : Int) < 4 := by omega
    have hA : Below w.heap.size w (w.alloc (.cells #[.int .u8 144, .int .u8 191] 112)) := (Below.refl _ _).alloc (Nat.le_refl _) _
    by_cases h1 : 1 < n
    · have k1 := (hA.cell (p := ⟨b, off + 1, none⟩) hbw).trans (hc1 h1)
      have h1' : (1 : Int) < n := by omega
      by_cases g1 : b1 < 144
      · have HZ : Hid (fullX 52 144 191 n b1 b2 = true) := Lib.hid (decide_eq_true (by omega))
        have q0 : (b1 : Int) < 144 := by omega
        clear hc1 hc2
        go_enter Tryd.func87, Tryd.ntmps87
        go_wp2
        go_quiet (fail)
        go_wp2
        go_ret
        exact ⟨by rw [HZ.out]; rfl, belowN hA _⟩
      · by_cases g2 : 191 < b1
        · have HZ : Hid (fullX 52 144 191 n b1 b2 = true) := Lib.hid (decide_eq_true (by omega))
          have q0 : (191 : Int) < b1 := by omega
          have q1 : decide ((b1 : Int) < 144) = false := decide_eq_false (by omega)
          clear hc1 hc2
          go_enter Tryd.func87, Tryd.ntmps87
          go_wp2
          go_quiet (fail)
          go_wp2
          go_ret
          exact ⟨by rw [HZ.out]; rfl, belowN hA _⟩
        · by_cases h2 : 2 < n
          · have k2 := (hA.cell (p := ⟨b, off + 2, none⟩) hbw).trans (hc2 h2)
            have h2' : (2 : Int) < n := by omega
            by_cases g3 : b2 < 128
            · have HZ : Hid (fullX 52 144 191 n b1 b2 = true) := Lib.hid (decide_eq_true (by omega))
              have q0 : (b2 : Int) < 128 := by omega
              have q1 : decide ((191 : Int) < b1) = false := decide_eq_false (by omega)
              have q2 : decide ((b1 : Int) < 144) = false := decide_eq_false (by omega)
              clear hc1 hc2
              go_enter Tryd.func87, Tryd.ntmps87
              go_wp2
              go_quiet (fail)
              go_wp2
              go_ret
              exact ⟨by rw [HZ.out]; rfl, belowN hA _⟩
            · by_cases g4 : 191 < b2
              · have HZ : Hid (fullX 52 144 191 n b1 b2 = true) := Lib.hid (decide_eq_true (by omega))
                have q0 : (191 : Int) < b2 := by omega
                have q1 : decide ((b2 : Int) < 128) = false := decide_eq_false (by omega)
                have q2 : decide ((191 : Int) < b1) = false := decide_eq_false (by omega)
                have q3 : decide ((b1 : Int) < 144) = false := decide_eq_false (by omega)
                clear hc1 hc2
                go_enter Tryd.func87, Tryd.ntmps87
                go_wp2
                go_quiet (fail)
                go_wp2
                go_ret
                exact ⟨by rw [HZ.out]; rfl, belowN hA _⟩
              · have HZ : Hid (fullX 52 144 191 n b1 b2 = false) := Lib.hid (decide_eq_false (by omega))
                have q0 : decide ((191 : Int) < b2) = false := decide_eq_false (by omega)
                have q1 : decide ((b2 : Int) < 128) = false := decide_eq_false (by omega)
                have q2 : decide ((191 : Int) < b1) = false := decide_eq_false (by omega)
                have q3 : decide ((b1 : Int) < 144) = false := decide_eq_false (by omega)
                clear hc1 hc2
                go_enter Tryd.func87, Tryd.ntmps87
                go_wp2
                go_quiet (fail)
                go_wp2
                go_ret
                exact ⟨by rw [HZ.out]; rfl, belowN hA _⟩
          · have HZ : Hid (fullX 52 144 191 n b1 b2 = false) := Lib.hid (decide_eq_false (by omega))
            have q0 : decide ((2 : Int) < n) = false := decide_eq_false (by omega)
            have q1 : decide ((191 : Int) < b1) = false := decide_eq_false (by omega)
            have q2 : decide ((b1 : Int) < 144) = false := decide_eq_false (by omega)
            clear hc1 hc2
            go_enter Tryd.func87, Tryd.ntmps87
            go_wp2
            go_quiet (fail)
            go_wp2
            go_ret
            exact ⟨by rw [HZ.out]; rfl, belowN hA _⟩
    · have hd1 : decide ((1 : Int) < n) = false := decide_eq_false (by omega)
      have hd2 : decide ((2 : Int) < n) = false := decide_eq_false (by omega)
      clear hc1 hc2
      have HZ : Hid (fullX 52 144 191 n b1 b2 = false) := Lib.hid (decide_eq_false (by omega))
      go_enter Tryd.func87, Tryd.ntmps87
      go_wp2
      go_quiet (fail)
      go_wp2
      go_ret
      exact ⟨by rw [HZ.out]; rfl, belowN hA _⟩
set_option maxHeartbeats 1000000 in
theorem full_4 (b off n c b0 b1 b2 : Nat) (hpos : 0 < n) (h63 : n ≤ 9223372036854775807) (hb0 : b0 < 256) (w : World) (hc0 : w.cell? ⟨b, off, none⟩ = some (.int .u8 b0)) (hf : w.cell? ⟨0, b0, none⟩ = some (.int .u8 4))
    (hc1 : 1 < n → w.cell? ⟨b, off + 1, none⟩ = some (.int .u8 b1)) (hc2 : 2 < n → w.cell? ⟨b, off + 2, none⟩ = some (.int .u8 b2))
    (hl : w.cell? ⟨1, 0, none⟩ = some (.int .u8 128)) (hh : w.cell? ⟨1, 1, none⟩ = some (.int .u8 191)) (hbw : b < w.heap.size) :
    Calls Tryd.prog 87 #[.slice (some ⟨b, off, none⟩) n c] w fun e w' => e = .returned (.bool (fullX 4 128 191 n b1 b2)) ∧ Below w.heap.size w w' := by
  have hused := And.intro hc1 (And.intro hc2 hbw)
  clear hused
  have hnz : ((n : Int) == 0) = false := by simp; omega
  have hz0' : (b0 : Int) < 256 := by omega
  have hn0 : (0 : Int) < n := by omega
  by_cases hs : 4 ≤ n
  · have HZ : Hid (fullX 4 128 191 n b1 b2 = true) := Lib.hid (decide_eq_true (by omega))
    have hs' : (4 : Int) ≤ n := by omega
    clear hc1 hc2
    go_enter Tryd.func87, Tryd.ntmps87
    go_wp2
    go_ret
    exact ⟨by rw [HZ.out]; rfl, Below.refl _ _⟩
  · have hs' : ¬ (4 : Int) ≤ n := by omega
    have hsl : (n : Int) < 4 := by omega
    have hA : Below w.heap.size w (w.alloc (.cells #[.int .u8 128, .int .u8 191] 112)) := (Below.refl _ _).alloc (Nat.le_refl _) _
    by_cases h1 : 1 < n
    · have k1 := (hA.cell (p := ⟨b, off + 1, none⟩) hbw).trans (hc1 h1)
      have h1' : (1 : Int) < n := by omega
      by_cases g1 : b1 < 128
      · have HZ : Hid (fullX 4 128 191 n b1 b2 = true) := Lib.hid (decide_eq_true (by omega))
        have q0 : (b1 : Int) < 128 := by omega
        clear hc1 hc2
        go_enter Tryd.func87, Tryd.ntmps87
        go_wp2
        go_quiet (fail)
        go_wp2
        go_ret
        exact ⟨by rw [HZ.out]; rfl, belowN hA _⟩
      · by_cases g2 : 191 < b1
        · have HZ : Hid (fullX 4 128 191 n b1 b2 = true) := Lib.hid (decide_eq_true (by omega))
          have q0 : (191 : Int) < b1 := by omega
          have q1 : decide ((b1 : Int) < 128) = false := decide_eq_false (by omega)
          clear hc1 hc2
          go_enter Tryd.func87, Tryd.ntmps87
          go_wp2
          go_quiet (fail)
          go_wp2
          go_ret
          exact ⟨by rw [HZ.out]; rfl, belowN hA _⟩
        · by_cases h2 : 2 < n
          · have k2 := (hA.cell (p := ⟨b, off + 2, none⟩) hbw).trans (hc2 h2)
            have h2' : (2 : Int) < n := by omega
            by_cases g3 : b2 < 128
            · have HZ : Hid (fullX 4 128 191 n b1 b2 = true) := Lib.hid (decide_eq_true (by omega))
              have q0 : (b2 : Int) < 128 := by omega
              have q1 : decide ((191 : Int) < b1) = false := decide_eq_false (by omega)
              have q2 : decide ((b1 : Int) < 128) = false := decide_eq_false (by omega)
              clear hc1 hc2
              go_enter Tryd.func87, Tryd.ntmps87
              go_wp2
              go_quiet (fail)
              go_wp2
              go_ret
              exact ⟨by rw [HZ.out]; rfl, belowN hA _⟩
            · by_cases g4 : 191 < b2
              · have HZ : Hid (fullX 4 128 191 n b1 b2 = true) := Lib.hid (decide_eq_true (by omega))
                have q0 : (191 : Int) < b2 := by omega
                have q1 : decide ((b2 : Int) < 128) = false := decide_eq_false (by omega)
                have q2 : decide ((191 : Int) < b1) = false := decide_eq_false (by omega)
                have q3 : decide ((b1 : Int) < 128) = false := decide_eq_false (by omega)
                clear hc1 hc2
                go_enter Tryd.func87, Tryd.ntmps87
                go_wp2
                go_quiet (fail)
                go_wp2
                go_ret
                exact ⟨by rw [HZ.out]; rfl, belowN hA _⟩
              · have HZ : Hid (fullX 4 128 191 n b1 b2 = false) := Lib.hid (decide_eq_false (by omega))
                have q0 : decide ((191 : Int) < b2) = false := decide_eq_false (by omega)
                have q1 : decide ((b2 : Int) < 128) = false := decide_eq_false (by omega)
                have q2 : decide ((191 : Int) < b1) = false := decide_eq_false (by omega)
                have q3 : decide ((b1 : Int) < 128) = false := decide_eq_false (by omega)
                clear hc1 hc2
                go_enter Tryd.func87, Tryd.ntmps87
                go_wp2
                go_quiet (fail)
                go_wp2
                go_ret
                exact ⟨by rw [HZ.out]; rfl, belowN hA _⟩
          · have HZ : Hid (fullX 4 128 191 n b1 b2 = false) := Lib.hid (decide_eq_false (by omega))
            have q0 : decide ((2 : Int) < n) = false := decide_eq_false (by omega)
            have q1 : decide ((191 : Int) < b1) = false := decide_eq_false (by omega)
            have q2 : decide ((b1 : Int) < 128) = false := decide_eq_false (by omega)
            clear hc1 hc2
            go_enter Tryd.func87, Tryd.ntmps87
            go_wp2
            go_quiet (fail)
            go_wp2
            go_ret
            exact ⟨by rw [HZ.out]; rfl, belowN hA _⟩
    · have hd1 : decide ((1 : Int) < n) = false := decide_eq_false (by omega)
      have hd2 : decide ((2 : Int) < n) = false := decide_eq_false (by omega)
      clear hc1 hc2
      have HZ : Hid (fullX 4 128 191 n b1 b2 = false) := Lib.hid (decide_eq_false (by omega))
      go_enter Tryd.func87, Tryd.ntmps87
      go_wp2
      go_quiet (fail)
      go_wp2
      go_ret
      exact ⟨by rw [HZ.out]; rfl, belowN hA _⟩
set_option maxHeartbeats 1000000 in
theorem full_68 (b off n c b0 b1 b2 : Nat) (hpos : 0 < n) (h63 : n ≤ 9223372036854775807) (hb0 : b0 < 256) (w : World) (hc0 : w.cell? ⟨b, off, none⟩ = some (.int .u8 b0)) (hf : w.cell? ⟨0, b0, none⟩ = some (.int .u8 68))
    (hc1 : 1 < n → w.cell? ⟨b, off + 1, none⟩ = some (.int .u8 b1)) (hc2 : 2 < n → w.cell? ⟨b, off + 2, none⟩ = some (.int .u8 b2))
    (hl : w.cell? ⟨1, 8, none⟩ = some (.int .u8 128)) (hh : w.cell? ⟨1, 9, none⟩ = some (.int .u8 143)) (hbw : b < w.heap.size) :
    Calls Tryd.prog 87 #[.slice (some ⟨b, off, none⟩) n c] w fun e w' => e = .returned (.bool (fullX 68 128 143 n b1 b2)) ∧ Below w.heap.size w w' := by
  have hused := And.intro hc1 (And.intro hc2 hbw)
  clear hused
  have hnz : ((n : Int) == 0) = false := by simp; omega
  have hz0' : (b0 : Int) < 256 := by omega
  have hn0 : (0 : Int) < n := by omega
  by_cases hs : 4 ≤ n
  · have HZ : Hid (fullX 68 128 143 n b1 b2 = true) := Lib.hid (decide_eq_true (by omega))
    have hs' : (4 : Int) ≤ n := by omega
    clear hc1 hc2
    go_enter Tryd.func87, Tryd.ntmps87
    go_wp2
    go_ret
    exact ⟨by rw [HZ.out]; rfl, Below.refl _ _⟩
  · have hs' : ¬ (4 : Int) ≤ n := by omega
    have hsl : (n : Int) < 4 := by omega
    have hA : Below w.heap.size w (w.alloc (.cells #[.int .u8 128, .int .u8 143] 112)) := (Below.refl _ _).alloc (Nat.le_refl _) _
    by_cases h1 : 1 < n
    · have k1 := (hA.cell (p := ⟨b, off + 1, none⟩) hbw).trans (hc1 h1)
      have h1' : (1 : Int) < n := by omega
      by_cases g1 : b1 < 128
      · have HZ : Hid (fullX 68 128 143 n b1 b2 = true) := Lib.hid (decide_eq_true (by omega))
        have q0 : (b1 : Int) < 128 := by omega
        clear hc1 hc2
        go_enter Tryd.func87, Tryd.ntmps87
        go_wp2
        go_quiet (fail)
        go_wp2
        go_ret
        exact ⟨by rw [HZ.out]; rfl, belowN hA _⟩
      · by_cases g2 : 143 < b1
        · have HZ : Hid (fullX 68 128 143 n b1 b2 = true) := Lib.hid (decide_eq_true (by omega))
          have q0 : (143 : Int) < b1 := by omega
          have q1 : decide ((b1 : Int) < 128) = false := decide_eq_false (by omega)
          clear hc1 hc2
          go_enter Tryd.func87, Tryd.ntmps87
          go_wp2
          go_quiet (fail)
          go_wp2
          go_ret
          exact ⟨by rw [HZ.out]; rfl, belowN hA _⟩
        · by_cases h2 : 2 < n
          · have k2 := (hA.cell (p := ⟨b, off + 2, none⟩) hbw).trans (hc2 h2)
            have h2' : (2 : Int) < n := by omega
            by_cases g3 : b2 < 128
            · have HZ : Hid (fullX 68 128 143 n b1 b2 = true) := Lib.hid (decide_eq_true (by omega))
              have q0 : (b2 : Int) < 128 := by omega
              have q1 : decide ((143 : Int) < b1) = false := decide_eq_false (by omega)
              have q2 : decide ((b1 : Int) < 128) = false := decide_eq_false (by omega)
              clear hc1 hc2
              go_enter Tryd.func87, Tryd.ntmps87
              go_wp2
              go_quiet (fail)
              go_wp2
              go_ret
              exact ⟨by rw [HZ.out]; rfl, belowN hA _⟩
            · by_cases g4 : 191 < b2
              · have HZ : Hid (fullX 68 128 143 n b1 b2 = true) := Lib.hid (decide_eq_true (by omega))
                have q0 : (191 : Int) < b2 := by omega
                have q1 : decide ((b2 : Int) < 128) = false := decide_eq_false (by omega)
                have q2 : decide ((143 : Int) < b1) = false := decide_eq_false (by omega)
                have q3 : decide ((b1 : Int) < 128) = false := decide_eq_false (by omega)
                clear hc1 hc2
                go_enter Tryd.func87, Tryd.ntmps87
                go_wp2
                go_quiet (fail)
                go_wp2
                go_ret
                exact ⟨by rw [HZ.out]; rfl, belowN hA _⟩
              · have HZ : Hid (fullX 68 128 143 n b1 b2 = false) := Lib.hid (decide_eq_false (by omega))
                have q0 : decide ((191 : Int) < b2) = false := decide_eq_false (by omega)
                have q1 : decide ((b2 : Int) < 128) = false := decide_eq_false (by omega)
                have q2 : decide ((143 : Int) < b1) = false := decide_eq_false (by omega)
                have q3 : decide ((b1 : Int) < 128) = false := decide_eq_false (by omega)
                clear hc1 hc2
                go_enter Tryd.func87, Tryd.ntmps87
                go_wp2
                go_quiet (fail)
                go_wp2
                go_ret
                exact ⟨by rw [HZ.out]; rfl, belowN hA _⟩
          · have HZ : Hid (fullX 68 128 143 n b1 b2 = false) := Lib.hid (decide_eq_false (by omega))
            have q0 : decide ((2 : Int) < n) = false := decide_eq_false (by omega)
            have q1 : decide ((143 : Int) < b1) = false := decide_eq_false (by omega)
            have q2 : decide ((b1 : Int) < 128) = false := decide_eq_false (by omega)
            clear hc1 hc2
            go_enter Tryd.func87, Tryd.ntmps87
            go_wp2
            go_quiet (fail)
            go_wp2
            go_ret
            exact ⟨by rw [HZ.out]; rfl, belowN hA _⟩
    · have hd1 : decide ((1 : Int) < n) = false := decide_eq_false (by omega)
      have hd2 : decide ((2 : Int) < n) = false := decide_eq_false (by omega)
      clear hc1 hc2
      have HZ : Hid (fullX 68 128 143 n b1 b2 = false) := Lib.hid (decide_eq_false (by omega))
      go_enter Tryd.func87, Tryd.ntmps87
      go_wp2
      go_quiet (fail)
      go_wp2
      go_ret
      exact ⟨by rw [HZ.out]; rfl, belowN hA _⟩

theorem full_any (A : Option Addr) (zs : List Nat) (n c : Nat) (hn : n = zs.length) (h63 : n ≤ 9223372036854775807) (w : World) (hT : UT w) (hR : BS w w.heap.size A zs) :
    Calls Tryd.prog 87 #[.slice A n c] w fun e w' => e = .returned (.bool (fullB zs)) ∧ Below w.heap.size w w' := by
  by_cases h0 : zs = []
  · subst h0
    obtain rfl : n = 0 := hn
    exact full_nil A c w
  · obtain ⟨b, off, rfl, hb, hc⟩ := hR.2 h0
    have hpos : 0 < n := by rw [hn]; exact List.length_pos_iff.2 h0
    have hc0 : w.cell? ⟨b, off, none⟩ = some (.int .u8 (zs[0]?.getD 0 : Nat)) := hc 0 (by omega)
    have hz0 : zs[0]?.getD 0 < 256 := by rw [List.getElem?_eq_getElem (by omega)]; exact hR.1 _ (List.getElem_mem _)
    have hf := hT.1.1 _ hz0
    have hc1 : 1 < n → w.cell? ⟨b, off + 1, none⟩ = some (.int .u8 (zs[1]?.getD 0 : Nat)) := fun h => hc 1 (by omega)
    have hc2 : 2 < n → w.cell? ⟨b, off + 2, none⟩ = some (.int .u8 (zs[2]?.getD 0 : Nat)) := fun h => hc 2 (by omega)
    have hacc := hT.1.2
    unfold fullB fullN
    rw [← hn]
    generalize zs[0]?.getD 0 = b0 at *
    generalize zs[1]?.getD 0 = b1 at *
    generalize zs[2]?.getD 0 = b2 at *
    rcases Lib.firstT_cases b0 with hx | hx | hx | hx | hx | hx | hx | hx | hx
    all_goals rw [hx] at hf ⊢
    · have h := full_one 240 (.inl rfl) b off n c b0 hpos h63 hz0 w hc0 hf
      rw [show fullX 240 (Lib.accLo (240 / 16)) (Lib.accHi (240 / 16)) n b1 b2 = true from decide_eq_true ⟨by omega, .inl (by omega)⟩]
      exact h
    · have h := full_one 241 (.inr rfl) b off n c b0 hpos h63 hz0 w hc0 hf
      rw [show fullX 241 (Lib.accLo (241 / 16)) (Lib.accHi (241 / 16)) n b1 b2 = true from decide_eq_true ⟨by omega, .inl (by omega)⟩]
      exact h
    · exact full_2 b off n c b0 b1 b2 hpos h63 hz0 w hc0 hf hc1 hc2 (hacc 0 (by decide)).1 (hacc 0 (by decide)).2 hb
    · exact full_19 b off n c b0 b1 b2 hpos h63 hz0 w hc0 hf hc1 hc2 (hacc 1 (by decide)).1 (hacc 1 (by decide)).2 hb
    · exact full_3 b off n c b0 b1 b2 hpos h63 hz0 w hc0 hf hc1 hc2 (hacc 0 (by decide)).1 (hacc 0 (by decide)).2 hb
    · exact full_35 b off n c b0 b1 b2 hpos h63 hz0 w hc0 hf hc1 hc2 (hacc 2 (by decide)).1 (hacc 2 (by decide)).2 hb
    · exact full_52 b off n c b0 b1 b2 hpos h63 hz0 w hc0 hf hc1 hc2 (hacc 3 (by decide)).1 (hacc 3 (by decide)).2 hb
    · exact full_4 b off n c b0 b1 b2 hpos h63 hz0 w hc0 hf hc1 hc2 (hacc 0 (by decide)).1 (hacc 0 (by decide)).2 hb
    · exact full_68 b off n c b0 b1 b2 hpos h63 hz0 w hc0 hf hc1 hc2 (hacc 4 (by decide)).1 (hacc 4 (by decide)).2 hb

end Go.Proofs.YtmmkcfjncpcabaaDoor
