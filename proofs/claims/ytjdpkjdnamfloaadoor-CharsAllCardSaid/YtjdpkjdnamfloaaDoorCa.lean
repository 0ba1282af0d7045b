/- The walks of package chars: what each call answers, and that nothing that lay has turned. -/
import Derived.Test.YtjdpkjdnamfloaaDoorKa
namespace Go.Proofs.YtjdpkjdnamfloaaDoor
open Go.RowKit

/-- A state: four kinds of sets, which is in use, which is for the next scalar alone. -/
structure St where
  a : Int
  b : Int
  c : Int
  d : Int
  u : Int
  o : Int
def St.val (s : St) : Value := .agg #[.int .i64 s.a, .int .i64 s.b, .int .i64 s.c, .int .i64 s.d, .int .i64 s.u, .int .i64 s.o]
def meantZ (u o : Int) : Int := if o = 2 ∨ o = 3 then o else if 0 ≤ u ∧ u < 4 then u else 0
theorem meantZ_bd (u o : Int) : 0 ≤ meantZ u o ∧ meantZ u o < 4 := by unfold meantZ; split; omega; split <;> omega
def setZ (a b c d k : Int) : Int := if k = 0 then a else if k = 1 then b else if k = 2 then c else d
/-- What the scalars from 0x60 on print as. -/
def drawnL : List Int := [9670, 9618, 9225, 9228, 9229, 9226, 176, 177, 9252, 9227, 9496, 9488, 9484, 9492, 9532, 9146, 9147, 9472, 9148, 9149, 9500, 9508, 9524, 9516, 9474, 8804, 8805, 960, 8800, 163, 183]
def printZ (k r : Int) : Int :=
  if k = 65 ∧ r = 35 then 163 else if k = 48 ∧ r = 95 then 32 else if k = 48 ∧ 96 ≤ r ∧ r ≤ 126 then drawnL[(r - 96).toNat]?.getD 0 else r
/-- The table lies where the program's variable lies. -/
def CT (w : World) : Prop := 0 < w.heap.size ∧ ∀ k, k < 31 → w.cell? ⟨0, k, none⟩ = some (.int .i32 (drawnL[k]?.getD 0))
theorem CT.below {w w' : World} (h : CT w) (hb : Below w.heap.size w w') : CT w' :=
  ⟨Nat.lt_of_lt_of_le h.1 hb.size, fun k hk => (hb.cell (p := ⟨_, k, none⟩) h.1).trans (h.2 k hk)⟩

set_option maxHeartbeats 1000000 in
theorem printed_any (k r : Int) (w : World) (hT : CT w) :
    Calls Tryd.prog 23 #[.int .i64 k, .int .i32 r] w fun e w' => e = .returned (.int .i32 (printZ k r)) ∧ w = w' := by
  by_cases h1 : k = 65
  · subst h1
    by_cases h2 : r = 35
    · subst h2
      clear hT
      go_enter Tryd.func23, Tryd.ntmps23
      go_wp2
      go_ret
      exact ⟨rfl, rfl⟩
    · have e : printZ 65 r = r := by unfold printZ; rw [if_neg (by omega), if_neg (by omega), if_neg (by omega)]
      have hb : (r == 35) = false := by simpa using h2
      have HE := Lib.hid e
      clear hT h2 e
      go_enter Tryd.func23, Tryd.ntmps23
      go_wp2
      go_ret
      exact ⟨by rw [HE.out]; rfl, rfl⟩
  · have hb1 : (k == 65) = false := by simpa using h1
    by_cases h2 : k = 48
    · subst h2
      by_cases h3 : 96 ≤ r
      · by_cases h4 : r ≤ 126
        · have e : printZ 48 r = drawnL[(r - 96).toNat]?.getD 0 := by unfold printZ; rw [if_neg (by omega), if_neg (by omega), if_pos ⟨rfl, h3, h4⟩]
          have HE := Lib.hid e
          obtain ⟨n, hn, rfl⟩ : ∃ n : Nat, n < 31 ∧ r = 96 + n := ⟨(r - 96).toNat, by omega, by omega⟩
          have hc := hT.2 n hn
          have ew : (96 + (n : Int) - 96).toNat = n := by omega
          rw [ew] at HE
          have en : (96 + (n : Int) - 96) = n := by omega
          have hn1 : (n : Int) < 31 := by omega
          have hw : IntKind.i32.wrap (96 + (n : Int) - 96) = n := by rw [en]; exact IntWalk.i32_in _ (by omega)
          clear hT e ew
          go_enter Tryd.func23, Tryd.ntmps23
          go_wp2
          go_ret
          exact ⟨by rw [HE.out]; rfl, rfl⟩
        · have e : printZ 48 r = r := by unfold printZ; rw [if_neg (by omega), if_neg (by omega), if_neg (by omega)]
          have HE := Lib.hid e
          have hb : (r == 95) = false := by simp; omega
          clear hT e
          go_enter Tryd.func23, Tryd.ntmps23
          go_wp2
          go_ret
          exact ⟨by rw [HE.out]; rfl, rfl⟩
      · by_cases h5 : r = 95
        · subst h5
          clear hT
          go_enter Tryd.func23, Tryd.ntmps23
          go_wp2
          go_ret
          exact ⟨rfl, rfl⟩
        · have e : printZ 48 r = r := by unfold printZ; rw [if_neg (by omega), if_neg (by omega), if_neg (by omega)]
          have HE := Lib.hid e
          have hb : (r == 95) = false := by simp; omega
          clear hT e h5
          go_enter Tryd.func23, Tryd.ntmps23
          go_wp2
          go_ret
          exact ⟨by rw [HE.out]; rfl, rfl⟩
    · have e : printZ k r = r := by unfold printZ; rw [if_neg (by omega), if_neg (by omega), if_neg (by omega)]
      have HE := Lib.hid e
      have hb : (k == 48) = false := by simpa using h2
      clear hT h1 h2 e
      go_enter Tryd.func23, Tryd.ntmps23
      go_wp2
      go_ret
      exact ⟨by rw [HE.out]; rfl, rfl⟩

set_option maxHeartbeats 1000000 in
theorem meant_any (a b c d u o : Int) (w : World) :
    Calls Tryd.prog 24 #[.agg #[.int .i64 a, .int .i64 b, .int .i64 c, .int .i64 d, .int .i64 u, .int .i64 o]] w fun e w' => e = .returned (.int .i64 (meantZ u o)) ∧ Below w.heap.size w w' := by
  have hB : ∀ t, Below w.heap.size w (w.alloc (.cells #[.int .i64 a, .int .i64 b, .int .i64 c, .int .i64 d, .int .i64 u, .int .i64 o] t)) := fun t => (Below.refl _ _).alloc (Nat.le_refl _) _
  have HB := Lib.hid hB
  clear hB
  by_cases h2 : o = 2
  · subst h2
    go_enter Tryd.func24, Tryd.ntmps24
    go_wp2
    go_ret
    exact ⟨rfl, HB.out _⟩
  by_cases h3 : o = 3
  · subst h3
    go_enter Tryd.func24, Tryd.ntmps24
    go_wp2
    go_ret
    exact ⟨rfl, HB.out _⟩
  have b2 : (o == 2) = false := by simpa using h2
  have b3 : (o == 3) = false := by simpa using h3
  have e : meantZ u o = if 0 ≤ u ∧ u < 4 then u else 0 := by unfold meantZ; rw [if_neg (by omega)]
  clear h2 h3
  by_cases h4 : 0 ≤ u
  · by_cases h5 : u < 4
    · rw [if_pos ⟨h4, h5⟩] at e
      have HE := Lib.hid e
      clear e
      go_enter Tryd.func24, Tryd.ntmps24
      go_wp2
      go_ret
      exact ⟨by rw [HE.out]; rfl, HB.out _⟩
    · rw [if_neg (by omega)] at e
      have HE := Lib.hid e
      clear e
      go_enter Tryd.func24, Tryd.ntmps24
      go_wp2
      go_ret
      exact ⟨by rw [HE.out]; rfl, HB.out _⟩
  · rw [if_neg (by omega)] at e
    have HE := Lib.hid e
    clear e
    go_enter Tryd.func24, Tryd.ntmps24
    go_wp2
    go_ret
    exact ⟨by rw [HE.out]; rfl, HB.out _⟩

end Go.Proofs.YtjdpkjdnamfloaaDoor
