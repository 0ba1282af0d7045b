/- The walks of width.has, Of's two closures, some, Of: what each call answers, and that nothing that lay has turned. -/
import Derived.Test.YtoiekhjmfoodiaaDoorProg
import Derived.WalkKit
import Derived.WalkSpells
import Derived.WalkLawsBesides
import Derived.Lib.Hide
import Derived.StillTailTactics
import Derived.Deep.QuietTactic
import Derived.BigQuiet
namespace Go.Proofs.YtoiekhjmfoodiaaDoor
open Go.RowKit

def hasB (lo hi r : Int) : Bool := decide (lo ≤ r) && decide (r ≤ hi)

set_option maxHeartbeats 400000 in
set_option maxRecDepth 100000 in
theorem has_any (lo hi r : Int) (w : World) :
    Calls Tryd.prog 70 #[.agg #[.int .i32 lo, .int .i32 hi], .int .i32 r] w fun e w' =>
      e = .returned (.bool (hasB lo hi r)) ∧ w' = w.alloc (.cells #[.int .i32 lo, .int .i32 hi] 80) := by
  by_cases h1 : lo ≤ r
  · by_cases h2 : r ≤ hi
    all_goals
      go_enter Tryd.func70, Tryd.ntmps70
      go_wp2
      go_ret
      exact ⟨by simp [hasB, h1, h2], rfl⟩
  · go_enter Tryd.func70, Tryd.ntmps70
    go_wp2
    go_ret
    exact ⟨by simp [hasB]; omega, rfl⟩

/-- The ranges, as the program's tables hold them. -/
def marksL : List (Int × Int) := [(768, 879), (1155, 1161), (1425, 1469), (1552, 1562), (1611, 1631), (2304, 2306), (2364, 2364), (2369, 2376), (3633, 3633), (3636, 3642), (6832, 6911), (7616, 7679), (8203, 8207), (8400, 8447), (8288, 8292), (65024, 65039), (65056, 65071), (65279, 65279), (917760, 917999)]
def widesL : List (Int × Int) := [(4352, 4447), (8986, 8987), (9001, 9002), (9193, 9196), (9725, 9726), (9748, 9749), (11904, 12350), (12353, 13311), (13312, 19903), (19968, 40959), (40960, 42191), (43360, 43391), (44032, 55203), (63744, 64255), (65072, 65135), (65280, 65376), (65504, 65510), (127744, 128591), (128640, 128767), (129280, 129535), (131072, 196605), (196608, 262141)]

/-- A table of pairs lies in block g. -/
def Tab (w : World) (g : Nat) (l : List (Int × Int)) : Prop :=
  g < w.heap.size ∧ ∀ k, k < l.length → w.cell? ⟨g, k * 2, none⟩ = some (.int .i32 (l[k]?.getD (0, 0)).1) ∧ w.cell? ⟨g, k * 2 + 1, none⟩ = some (.int .i32 (l[k]?.getD (0, 0)).2)
set_option maxRecDepth 100000 in
theorem Tab.below {w w' : World} {g : Nat} {l : List (Int × Int)} {B : Nat} (h : Tab w g l) (hb : Below B w w') (hg : g < B) : Tab w' g l :=
  ⟨Nat.lt_of_lt_of_le h.1 hb.size, fun k hk => ⟨(hb.cell (p := ⟨g, k * 2, none⟩) hg).trans (h.2 k hk).1, (hb.cell (p := ⟨g, k * 2 + 1, none⟩) hg).trans (h.2 k hk).2⟩⟩
set_option maxRecDepth 100000 in
theorem Tab.alloc {w : World} {g : Nat} {l : List (Int × Int)} (h : Tab w g l) (o : Obj) : Tab (w.alloc o) g l :=
  h.below ((Below.refl w.heap.size w).alloc (Nat.le_refl _) o) h.1

set_option maxHeartbeats 400000 in
set_option maxRecDepth 100000 in
theorem of1_any (k b : Nat) (r : Int) (w : World) (hk : k < 19) (ht : Tab w 0 marksL) (hc : w.cell? ⟨b, 0, none⟩ = some (.int .i32 r)) :
    Calls Tryd.prog 69 #[.int .i64 k, .pointer (some ⟨b, 0, none⟩)] w fun e w' =>
      e = .returned (.bool (hasB (marksL[k]?.getD (0, 0)).1 (marksL[k]?.getD (0, 0)).2 r)) ∧ Below w.heap.size w w' := by
  obtain ⟨h1, h2⟩ := ht.2 k (by simpa [marksL] using hk)
  generalize (marksL[k]?.getD (0, 0)).1 = lo at *
  generalize (marksL[k]?.getD (0, 0)).2 = hi at *
  clear ht
  have hk' : (k : Int) < 19 := by omega
  go_enter Tryd.func69, Tryd.ntmps69
  go_wp2
  go_still_tail 4, (by kernel_rfl)
  change wpList _ _ _ _ _ w.drew
  have hB : Below w.heap.size w w.drew := (Below.refl _ _).drew
  generalize w.drew = w2 at hB ⊢
  go_wp2_with (go_at_call 70; refine (has_any _ _ _ _).mono ?_; rintro e w' ⟨rfl, rfl⟩)
  go_ret
  exact ⟨rfl, hB.alloc hB.size _⟩

set_option maxHeartbeats 400000 in
set_option maxRecDepth 100000 in
theorem of2_any (k b : Nat) (r : Int) (w : World) (hk : k < 22) (ht : Tab w 1 widesL) (hc : w.cell? ⟨b, 0, none⟩ = some (.int .i32 r)) :
    Calls Tryd.prog 71 #[.int .i64 k, .pointer (some ⟨b, 0, none⟩)] w fun e w' =>
      e = .returned (.bool (hasB (widesL[k]?.getD (0, 0)).1 (widesL[k]?.getD (0, 0)).2 r)) ∧ Below w.heap.size w w' := by
  obtain ⟨h1, h2⟩ := ht.2 k (by simpa [widesL] using hk)
  generalize (widesL[k]?.getD (0, 0)).1 = lo at *
  generalize (widesL[k]?.getD (0, 0)).2 = hi at *
  clear ht
  have hk' : (k : Int) < 22 := by omega
  go_enter Tryd.func71, Tryd.ntmps71
  go_wp2
  go_still_tail 4, (by kernel_rfl)
  change wpList _ _ _ _ _ w.drew
  have hB : Below w.heap.size w w.drew := (Below.refl _ _).drew
  generalize w.drew = w2 at hB ⊢
  go_wp2_with (go_at_call 70; refine (has_any _ _ _ _).mono ?_; rintro e w' ⟨rfl, rfl⟩)
  go_ret
  exact ⟨rfl, hB.alloc hB.size _⟩

set_option maxHeartbeats 400000 in
set_option maxRecDepth 100000 in
/-- 'some' over a closure: is there a place below n where it says true? -/
theorem some1_any (c : Value) (n : Nat) (hn : n ≤ 1000) (p : Nat → Bool) (w : World)
    (h : ∀ k < n, ∀ W, Below w.heap.size w W → Calls Tryd.prog 69 #[.int .i64 k, c] W fun e W' => e = .returned (.bool (p k)) ∧ Below W.heap.size W W') :
    Calls Tryd.prog 68 #[.int .i64 n, .func (.func 69) #[] #[c]] w fun e w' =>
      e = .returned (.bool ((List.range n).any p)) ∧ Below w.heap.size w w' := by
  go_enter Tryd.func68, Tryd.ntmps68
  go_wp2
  go_loopw [7] (fun i wr => ∃ k : Nat, k ≤ n ∧ i = .int .i64 k ∧ (List.range k).any p = false ∧ Below w.heap.size w wr) (fun i _ => n - (intOf i).toNat)
  case atStart => exact ⟨0, Nat.zero_le _, rfl, rfl, Below.refl _ _⟩
  case round =>
    obtain ⟨k, hk, rfl, hp, hB⟩ := hrel
    have HP := Lib.hid hp
    clear hp
    by_cases hlt : k < n
    · have hck := h k hlt wr hB
      clear h
      have hs : (List.range (k + 1)).any p = p k := by rw [List.range_succ, List.any_append, HP.out]; simp
      have hall : p k = true → (List.range n).any p = true := fun e => List.any_eq_true.2 ⟨k, List.mem_range.2 hlt, e⟩
      cases hq : p k with
      | false =>
        rw [hq] at hck hs
        have HS := Lib.hid hs
        clear hs hall hq
        go_wp2_with (go_at_call 69; refine hck.mono ?_; rintro e w' ⟨rfl, hb'⟩)
        go_roundw
        case rel => exact ⟨k + 1, hlt, by go_num, HS.out, hB.trans (hb'.mono hB.size)⟩
        case measure => simp [intOf]; omega
      | true =>
        rw [hq] at hck
        have HS := Lib.hid (hall hq)
        clear hs hall hq
        go_wp2_with (go_at_call 69; refine hck.mono ?_; rintro e w' ⟨rfl, hb'⟩)
        go_ret
        exact ⟨by rw [HS.out]; rfl, hB.trans (hb'.mono hB.size)⟩
    · have : k = n := by omega
      subst this
      clear h
      go_wp2
      go_ret
      exact ⟨by rw [HP.out]; rfl, hB⟩

set_option maxHeartbeats 400000 in
set_option maxRecDepth 100000 in
/-- 'some' over a closure: is there a place below n where it says true? -/
theorem some2_any (c : Value) (n : Nat) (hn : n ≤ 1000) (p : Nat → Bool) (w : World)
    (h : ∀ k < n, ∀ W, Below w.heap.size w W → Calls Tryd.prog 71 #[.int .i64 k, c] W fun e W' => e = .returned (.bool (p k)) ∧ Below W.heap.size W W') :
    Calls Tryd.prog 68 #[.int .i64 n, .func (.func 71) #[] #[c]] w fun e w' =>
      e = .returned (.bool ((List.range n).any p)) ∧ Below w.heap.size w w' := by
  go_enter Tryd.func68, Tryd.ntmps68
  go_wp2
  go_loopw [7] (fun i wr => ∃ k : Nat, k ≤ n ∧ i = .int .i64 k ∧ (List.range k).any p = false ∧ Below w.heap.size w wr) (fun i _ => n - (intOf i).toNat)
  case atStart => exact ⟨0, Nat.zero_le _, rfl, rfl, Below.refl _ _⟩
  case round =>
    obtain ⟨k, hk, rfl, hp, hB⟩ := hrel
    have HP := Lib.hid hp
    clear hp
    by_cases hlt : k < n
    · have hck := h k hlt wr hB
      clear h
      have hs : (List.range (k + 1)).any p = p k := by rw [List.range_succ, List.any_append, HP.out]; simp
      have hall : p k = true → (List.range n).any p = true := fun e => List.any_eq_true.2 ⟨k, List.mem_range.2 hlt, e⟩
      cases hq : p k with
      | false =>
        rw [hq] at hck hs
        have HS := Lib.hid hs
        clear hs hall hq
        go_wp2_with (go_at_call 71; refine hck.mono ?_; rintro e w' ⟨rfl, hb'⟩)
        go_roundw
        case rel => exact ⟨k + 1, hlt, by go_num, HS.out, hB.trans (hb'.mono hB.size)⟩
        case measure => simp [intOf]; omega
      | true =>
        rw [hq] at hck
        have HS := Lib.hid (hall hq)
        clear hs hall hq
        go_wp2_with (go_at_call 71; refine hck.mono ?_; rintro e w' ⟨rfl, hb'⟩)
        go_ret
        exact ⟨by rw [HS.out]; rfl, hB.trans (hb'.mono hB.size)⟩
    · have : k = n := by omega
      subst this
      clear h
      go_wp2
      go_ret
      exact ⟨by rw [HP.out]; rfl, hB⟩

end Go.Proofs.YtoiekhjmfoodiaaDoor
