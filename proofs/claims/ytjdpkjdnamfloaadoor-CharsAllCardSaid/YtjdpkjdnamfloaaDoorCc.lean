/- The walks of the document's answer for characters: Of, First, Take, Lock, Lines, Prints, Map. -/
import Derived.Test.YtjdpkjdnamfloaaDoorCb
namespace Go.Proofs.YtjdpkjdnamfloaaDoor
open Go.RowKit

set_option maxHeartbeats 1000000 in
theorem ofS_any (a b c d u o : Int) (w : World) :
    Calls Tryd.prog 10 #[.agg #[.int .i64 a, .int .i64 b, .int .i64 c, .int .i64 d, .int .i64 u, .int .i64 o]] w fun e w' => e = .returned (.agg #[.int .i64 a, .int .i64 b, .int .i64 c, .int .i64 d, .int .i64 u, .int .i64 o]) ∧ Below w.heap.size w w' := by
  go_enter Tryd.func10, Tryd.ntmps10
  go_wp2
  exact bodyPost_ret (v := .agg #[.int .i64 a, .int .i64 b, .int .i64 c, .int .i64 d, .int .i64 u, .int .i64 o]) (by simp [results, Tryd.results10, go_sem]) rfl ⟨rfl, ((Below.refl _ _).alloc (Nat.le_refl _) _).alloc (by simp) _⟩

set_option maxHeartbeats 1000000 in
theorem firstS_any (w : World) :
    Calls Tryd.prog 19 #[] w fun e w' => e = .returned (.agg #[.int .i64 66, .int .i64 66, .int .i64 66, .int .i64 66, .int .i64 0, .int .i64 0]) ∧ Below w.heap.size w w' := by
  go_enter Tryd.func19, Tryd.ntmps19
  go_wp2
  exact bodyPost_ret (v := .agg #[.int .i64 66, .int .i64 66, .int .i64 66, .int .i64 66, .int .i64 0, .int .i64 0]) (by simp [results, Tryd.results19, go_sem]) rfl ⟨rfl, (Below.refl _ _).alloc (Nat.le_refl _) _⟩

set_option maxHeartbeats 1000000 in
theorem refTake_any (a b c d u o x : Int) (w : World) :
    Calls Tryd.prog 15 #[.agg #[.int .i64 a, .int .i64 b, .int .i64 c, .int .i64 d, .int .i64 u, .int .i64 o], .int .u8 x] w fun e w' => e = .returned (.agg #[.int .i64 a, .int .i64 b, .int .i64 c, .int .i64 d, .int .i64 (takeZ u x), .int .i64 o]) ∧ Below w.heap.size w w' := by
  by_cases h1 : x = 14
  · subst h1
    go_enter Tryd.func15, Tryd.ntmps15
    go_wp2
    exact bodyPost_ret (v := .agg #[.int .i64 a, .int .i64 b, .int .i64 c, .int .i64 d, .int .i64 1, .int .i64 o]) (by simp [results, Tryd.results15, go_sem]) rfl ⟨rfl, ((Below.refl _ _).alloc (Nat.le_refl _) _).alloc (by simp) _⟩
  by_cases h2 : x = 15
  · subst h2
    go_enter Tryd.func15, Tryd.ntmps15
    go_wp2
    exact bodyPost_ret (v := .agg #[.int .i64 a, .int .i64 b, .int .i64 c, .int .i64 d, .int .i64 0, .int .i64 o]) (by simp [results, Tryd.results15, go_sem]) rfl ⟨rfl, ((Below.refl _ _).alloc (Nat.le_refl _) _).alloc (by simp) _⟩
  rw [show takeZ u x = u by unfold takeZ; rw [if_neg h1, if_neg h2]]
  have b1 : (x == 14) = false := by simpa using h1
  have b2 : (x == 15) = false := by simpa using h2
  clear h1 h2
  go_enter Tryd.func15, Tryd.ntmps15
  go_wp2
  exact bodyPost_ret (v := .agg #[.int .i64 a, .int .i64 b, .int .i64 c, .int .i64 d, .int .i64 u, .int .i64 o]) (by simp [results, Tryd.results15, go_sem]) rfl ⟨rfl, ((Below.refl _ _).alloc (Nat.le_refl _) _).alloc (by simp) _⟩

set_option maxHeartbeats 1000000 in
theorem refLock_any (a b c d u o x : Int) (w : World) :
    Calls Tryd.prog 17 #[.agg #[.int .i64 a, .int .i64 b, .int .i64 c, .int .i64 d, .int .i64 u, .int .i64 o], .int .u8 x] w fun e w' => e = .returned (.agg #[.int .i64 a, .int .i64 b, .int .i64 c, .int .i64 d, .int .i64 (lockU u x), .int .i64 (lockO o x)]) ∧ Below w.heap.size w w' := by
  by_cases h110 : x = 110
  · subst h110
    go_enter Tryd.func17, Tryd.ntmps17
    go_wp2
    exact bodyPost_ret (v := .agg #[.int .i64 a, .int .i64 b, .int .i64 c, .int .i64 d, .int .i64 2, .int .i64 o]) (by simp [results, Tryd.results17, go_sem]) rfl ⟨rfl, ((Below.refl _ _).alloc (Nat.le_refl _) _).alloc (by simp) _⟩
  by_cases h111 : x = 111
  · subst h111
    go_enter Tryd.func17, Tryd.ntmps17
    go_wp2
    exact bodyPost_ret (v := .agg #[.int .i64 a, .int .i64 b, .int .i64 c, .int .i64 d, .int .i64 3, .int .i64 o]) (by simp [results, Tryd.results17, go_sem]) rfl ⟨rfl, ((Below.refl _ _).alloc (Nat.le_refl _) _).alloc (by simp) _⟩
  by_cases h78 : x = 78
  · subst h78
    go_enter Tryd.func17, Tryd.ntmps17
    go_wp2
    exact bodyPost_ret (v := .agg #[.int .i64 a, .int .i64 b, .int .i64 c, .int .i64 d, .int .i64 u, .int .i64 2]) (by simp [results, Tryd.results17, go_sem]) rfl ⟨rfl, ((Below.refl _ _).alloc (Nat.le_refl _) _).alloc (by simp) _⟩
  by_cases h79 : x = 79
  · subst h79
    go_enter Tryd.func17, Tryd.ntmps17
    go_wp2
    exact bodyPost_ret (v := .agg #[.int .i64 a, .int .i64 b, .int .i64 c, .int .i64 d, .int .i64 u, .int .i64 3]) (by simp [results, Tryd.results17, go_sem]) rfl ⟨rfl, ((Below.refl _ _).alloc (Nat.le_refl _) _).alloc (by simp) _⟩
  rw [show lockU u x = u by unfold lockU; rw [if_neg h110, if_neg h111], show lockO o x = o by unfold lockO; rw [if_neg h78, if_neg h79]]
  have b110 : (x == 110) = false := by simpa using h110
  have b111 : (x == 111) = false := by simpa using h111
  have b78 : (x == 78) = false := by simpa using h78
  have b79 : (x == 79) = false := by simpa using h79
  clear h110 h111 h78 h79
  go_enter Tryd.func17, Tryd.ntmps17
  go_wp2
  exact bodyPost_ret (v := .agg #[.int .i64 a, .int .i64 b, .int .i64 c, .int .i64 d, .int .i64 u, .int .i64 o]) (by simp [results, Tryd.results17, go_sem]) rfl ⟨rfl, ((Below.refl _ _).alloc (Nat.le_refl _) _).alloc (by simp) _⟩

set_option maxHeartbeats 1000000 in
theorem lines_any (w : World) :
    Calls Tryd.prog 26 #[] w fun e w' => e = .returned (.slice (some ⟨w.heap.size, 0, none⟩) 31 31) ∧ w' = w.alloc (.cells (drawnL.map (Value.int .i32)).toArray 21) := by
  go_enter Tryd.func26, Tryd.ntmps26
  go_wp2
  go_ret
  exact ⟨rfl, rfl⟩

theorem draw_cell (w : World) (n : Nat) (hn : n < 31) : (w.alloc (.cells (drawnL.map (Value.int .i32)).toArray 21)).cell? ⟨w.heap.size, n, none⟩ = some (.int .i32 (drawnL[n]?.getD 0)) := by
  refine (cell_of_row _ _ _ _ _ _ (heap_alloc_new w _)).trans ?_
  have hl : n < drawnL.length := hn
  simp [List.getElem?_eq_getElem hl]

set_option maxHeartbeats 1000000 in
theorem prints_any (k r : Int) (w : World) :
    Calls Tryd.prog 20 #[.int .i64 k, .int .i32 r] w fun e w' => e = .returned (.int .i32 (printZ k r)) ∧ Below w.heap.size w w' := by
  by_cases h1 : k = 65
  · subst h1
    by_cases h2 : r = 35
    · subst h2
      go_enter Tryd.func20, Tryd.ntmps20
      go_wp2
      go_ret
      exact ⟨rfl, Below.refl _ _⟩
    · have e : printZ 65 r = r := by unfold printZ; rw [if_neg (by omega), if_neg (by omega), if_neg (by omega)]
      have hb : (r == 35) = false := by simpa using h2
      have HE := Lib.hid e
      clear h2 e
      go_enter Tryd.func20, Tryd.ntmps20
      go_wp2
      go_ret
      exact ⟨by rw [HE.out]; rfl, Below.refl _ _⟩
  · have hb1 : (k == 65) = false := by simpa using h1
    by_cases h2 : k = 48
    · subst h2
      by_cases h3 : 96 ≤ r
      · by_cases h4 : r ≤ 126
        · have e : printZ 48 r = drawnL[(r - 96).toNat]?.getD 0 := by unfold printZ; rw [if_neg (by omega), if_neg (by omega), if_pos ⟨rfl, h3, h4⟩]
          have HE := Lib.hid e
          obtain ⟨n, hn, rfl⟩ : ∃ n : Nat, n < 31 ∧ r = 96 + n := ⟨(r - 96).toNat, by omega, by omega⟩
          have hc := draw_cell w n hn
          have ew : (96 + (n : Int) - 96).toNat = n := by omega
          rw [ew] at HE
          have en : (96 + (n : Int) - 96) = n := by omega
          have hn1 : (n : Int) < 31 := by omega
          have hw : IntKind.i32.wrap (96 + (n : Int) - 96) = n := by rw [en]; exact IntWalk.i32_in _ (by omega)
          clear e ew
          go_enter Tryd.func20, Tryd.ntmps20
          go_wp2_with (go_at_call 26; refine (lines_any _).mono ?_; rintro e w1 ⟨rfl, rfl⟩)
          go_ret
          exact ⟨by rw [HE.out]; rfl, (Below.refl _ _).alloc (Nat.le_refl _) _⟩
        · have e : printZ 48 r = r := by unfold printZ; rw [if_neg (by omega), if_neg (by omega), if_neg (by omega)]
          have HE := Lib.hid e
          have hb : (r == 95) = false := by simp; omega
          clear e
          go_enter Tryd.func20, Tryd.ntmps20
          go_wp2
          go_ret
          exact ⟨by rw [HE.out]; rfl, Below.refl _ _⟩
      · by_cases h5 : r = 95
        · subst h5
          go_enter Tryd.func20, Tryd.ntmps20
          go_wp2
          go_ret
          exact ⟨rfl, Below.refl _ _⟩
        · have e : printZ 48 r = r := by unfold printZ; rw [if_neg (by omega), if_neg (by omega), if_neg (by omega)]
          have HE := Lib.hid e
          have hb : (r == 95) = false := by simp; omega
          clear e h5
          go_enter Tryd.func20, Tryd.ntmps20
          go_wp2
          go_ret
          exact ⟨by rw [HE.out]; rfl, Below.refl _ _⟩
    · have e : printZ k r = r := by unfold printZ; rw [if_neg (by omega), if_neg (by omega), if_neg (by omega)]
      have HE := Lib.hid e
      have hb : (k == 48) = false := by simpa using h2
      clear h1 h2 e
      go_enter Tryd.func20, Tryd.ntmps20
      go_wp2
      go_ret
      exact ⟨by rw [HE.out]; rfl, Below.refl _ _⟩

end Go.Proofs.YtjdpkjdnamfloaaDoor
