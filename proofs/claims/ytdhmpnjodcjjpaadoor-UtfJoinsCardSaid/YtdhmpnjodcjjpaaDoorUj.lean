/- The walk of the reference's Is: are bytes a scalar's? -/
import Derived.Test.YtdhmpnjodcjjpaaDoorUi
import Derived.Laws.IdiomStrings
import Derived.Deep.RegionHeld3
import Derived.Deep.RegionWith
namespace Go.Proofs.YtdhmpnjodcjjpaaDoor
open Go.RowKit

/-- A scalar's bytes. -/
def putL (r : Int) : List Nat := if scalarB r = true then (if r < 128 then putN 1 r else if r < 2048 then putN 2 r else if r < 65536 then putN 3 r else putN 4 r) else []

theorem scalarB_bd {r : Int} (h : scalarB r = true) : 0 ≤ r ∧ r ≤ 1114111 := by
  have := of_decide_eq_true h
  omega

theorem refput_no (r : Int) (hs : scalarB r = false) (w : World) :
    Calls Tryd.prog 16 #[.int .i32 r] w fun e w' => e = .returned (.slice none 0 0) ∧ w = w' := by
  have hv := scalar_any r
  rw [hs] at hv
  clear hs
  go_enter Tryd.func16, Tryd.ntmps16
  go_wp2_with (go_at_call 15; refine (hv _).mono ?_; clear hv; rintro e w1 ⟨rfl, rfl⟩)
  go_ret
  exact ⟨rfl, rfl⟩

theorem refput_any (r : Int) (w : World) :
    Calls Tryd.prog 16 #[.int .i32 r] w fun e w' => ∃ A c, e = .returned (.slice A (putL r).length c) ∧ BS w' w'.heap.size A (putL r) ∧ Below w.heap.size w w' := by
  by_cases hs : scalarB r = true
  · obtain ⟨h0, h1⟩ := scalarB_bd hs
    unfold putL
    rw [if_pos hs]
    by_cases a : r < 128
    · rw [if_pos a]
      exact refput_1 r h0 a hs w
    rw [if_neg a]
    by_cases b : r < 2048
    · rw [if_pos b]
      exact refput_2 r (by omega) b hs w
    rw [if_neg b]
    by_cases c : r < 65536
    · rw [if_pos c]
      exact refput_3 r (by omega) c hs w
    rw [if_neg c]
    exact refput_4 r (by omega) (by omega) hs w
  · have hs' : scalarB r = false := by simpa using hs
    refine (refput_no r hs' w).mono ?_
    rintro e w' ⟨rfl, rfl⟩
    have e0 : putL r = [] := by unfold putL; rw [if_neg hs]
    rw [e0]
    exact ⟨none, 0, rfl, ⟨by simp, by simp⟩, Below.refl _ _⟩

/-- Bytes as a text. -/
def strL (zs : List Nat) : ByteArray := ⟨(zs.map UInt8.ofNat).toArray⟩
theorem strL_inj {zs ys : List Nat} (hz : ∀ z ∈ zs, z < 256) (hy : ∀ y ∈ ys, y < 256) (h : strL zs = strL ys) : zs = ys := by
  have h2 : zs.map UInt8.ofNat = ys.map UInt8.ofNat := by
    have := congrArg (fun b => b.data.toList) h
    simpa [strL] using this
  have back : ∀ l : List Nat, (∀ z ∈ l, z < 256) → (l.map UInt8.ofNat).map UInt8.toNat = l := fun l hl => by
    rw [List.map_map]
    refine (List.map_congr_left (g := id) fun z hz => ?_).trans (List.map_id _)
    have := hl z hz
    simp [UInt8.toNat_ofNat']
    omega
  rw [← back zs hz, ← back ys hy, h2]
theorem conv_str {w : World} {B : Nat} {A : Option Addr} {zs : List Nat} (n c : Nat) (hn : n = zs.length) (hR : BS w B A zs) :
    (Go.convert 22 9 (.slice A n c)).run Tryd.prog w = .ok (.string (strL zs)) w := by
  have back : ∀ (b off : Nat), (∀ k, k < zs.length → w.cell? ⟨b, off + k, none⟩ = some (.int .u8 (zs[k]?.getD 0))) → (Go.convert 22 9 (.slice (some ⟨b, off, none⟩) n c)).run Tryd.prog w = .ok (.string (strL zs)) w := fun b off hc => by
    have hl : (zs.map UInt8.ofNat).length = n := by rw [List.length_map]; exact hn.symm
    have := run_convert_bytes_back (P := Tryd.prog) w 22 9 5 ⟨b, off, none⟩ c (zs.map UInt8.ofNat) (by kernel_rfl) (by kernel_rfl) (by kernel_rfl) (fun j hj => by
      have hj' : j < zs.length := by simpa using hj
      have ea : (⟨b, off, none⟩ : Addr).add j = ⟨b, off + j, none⟩ := by simp [Addr.add]
      rw [ea, hc j hj']
      have hz : zs[j] < 256 := hR.1 _ (List.getElem_mem hj')
      simp [hj', Nat.mod_eq_of_lt hz])
    rw [hl] at this
    exact this
  by_cases hz : zs = []
  · subst hz
    simp at hn
    subst hn
    rcases A with _ | ⟨b, off, _ | p⟩
    · rw [run_convert_bytes_string w _ _ 5 none 0 c (by kernel_rfl) (by kernel_rfl) (by kernel_rfl)]
      rfl
    · exact back b off (fun k hk => by simp at hk)
    · rw [run_convert_bytes_string w _ _ 5 _ 0 c (by kernel_rfl) (by kernel_rfl) (by kernel_rfl)]
      rfl
  · obtain ⟨b, off, rfl, _, hc⟩ := hR.2 hz
    exact back b off hc

theorem putL_lt (r : Int) : ∀ z ∈ putL r, z < 256 := by
  unfold putL
  by_cases hs : scalarB r = true
  · obtain ⟨h0, h1⟩ := scalarB_bd hs
    rw [if_pos hs]
    split
    · intro z hz; simp only [putN, List.mem_cons, List.not_mem_nil, or_false] at hz; omega
    split
    · intro z hz; simp only [putN, List.mem_cons, List.not_mem_nil, or_false] at hz; omega
    split
    · intro z hz; simp only [putN, List.mem_cons, List.not_mem_nil, or_false] at hz; omega
    · intro z hz; simp only [putN, List.mem_cons, List.not_mem_nil, or_false] at hz; omega
  · rw [if_neg hs]; simp
theorem str_beq {zs ys : List Nat} (hz : ∀ z ∈ zs, z < 256) (hy : ∀ y ∈ ys, y < 256) : ((strL zs).toList == (strL ys).toList) = decide (zs = ys) := by
  rw [ByteArray.toList_eq, ByteArray.toList_eq]
  by_cases h : zs = ys
  · subst h; simp
  · rw [decide_eq_false h]
    have hn : strL zs ≠ strL ys := fun e => h (strL_inj hz hy e)
    have : (strL zs).data.toList ≠ (strL ys).data.toList := fun e => hn (by
      have e2 : (strL zs).data = (strL ys).data := by
        apply Array.ext'
        exact e
      unfold strL at e2 ⊢
      exact congrArg ByteArray.mk e2)
    simpa using this

theorem hconv_next {w1 W W' : World} {n c : Nat} {A : Option Addr} {zs : List Nat} (hc : Hid (∀ W, Below w1.heap.size w1 W → (Go.convert 22 9 (.slice A n c)).run Tryd.prog W = .ok (.string (strL zs)) W))
    (hb : Below w1.heap.size w1 W) (hb' : Below W.heap.size W W') : (Go.convert 22 9 (.slice A n c)).run Tryd.prog W' = .ok (.string (strL zs)) W' ∧ Below w1.heap.size w1 W' :=
  have h := hb.trans (hb'.mono hb.size)
  ⟨hc.out _ h, h⟩

set_option maxHeartbeats 2000000 in
theorem is_aux (A : Option Addr) (zs : List Nat) (n c : Nat) (hn : n = zs.length) (z : Int) (w : World) (hR : BS w w.heap.size A zs)
    (hnum : Calls Tryd.prog 27 #[.slice A n c] w fun e w' => e = .returned (.int .i32 z) ∧ Below w.heap.size w w') :
    Calls Tryd.prog 17 #[.slice A n c] w fun e w' => e = .returned (.bool (decide (0 ≤ z) && decide (putL z = zs))) ∧ Below w.heap.size w w' := by
  have HR := Lib.hid hR
  have HN := Lib.hid hn
  clear hR hn
  by_cases hz : z < 0
  · have hz0 : ¬ 0 ≤ z := by omega
    have HD : Hid ((decide (0 ≤ z) && decide (putL z = zs)) = false) := Lib.hid (by rw [decide_eq_false (by omega)]; rfl)
    generalize (decide (0 ≤ z) && decide (putL z = zs)) = d at *
    go_enter Tryd.func17, Tryd.ntmps17
    go_wp2_with (go_at_call 27; refine hnum.mono ?_; clear hnum; rintro e w1 ⟨rfl, hB⟩)
    first | go_region_with (fail) | fail
    all_goals
      go_wp2
      go_ret
      exact ⟨by rw [HD.out]; rfl, hB.drew⟩
  · have hz' : 0 ≤ z := by omega
    have HD : Hid ((decide (0 ≤ z) && decide (putL z = zs)) = decide (putL z = zs)) := Lib.hid (by rw [decide_eq_true hz']; rfl)
    generalize (decide (0 ≤ z) && decide (putL z = zs)) = d at *
    go_enter Tryd.func17, Tryd.ntmps17
    go_wp2_with (go_at_call 27; refine hnum.mono ?_; clear hnum; rintro e w1 ⟨rfl, hB⟩)
    have hcv : ∀ W, Below w1.heap.size w1 W → (Go.convert 22 9 (.slice A n c)).run Tryd.prog W = .ok (.string (strL zs)) W := fun W hW => conv_str n c HN.out ((HR.out.below hB).below (hW.mono hB.size))
    have hc1 := hcv _ (Below.refl _ _).drew
    have hb1 := (Below.refl w1.heap.size w1).drew
    have HCV := Lib.hid hcv
    clear hcv
    have HP : Hid (∀ W, Calls Tryd.prog 16 #[.int .i32 z] W fun e w' => (∃ A c, e = .returned (.slice A (putL z).length c) ∧ (Go.convert 22 9 (.slice A (putL z).length c)).run Tryd.prog w' = .ok (.string (strL (putL z))) w') ∧ Below W.heap.size W w') := Lib.hid fun W => (refput_any z W).mono (by
      rintro e w' ⟨A', c', rfl, hb, hB⟩
      exact ⟨⟨A', c', rfl, conv_str _ c' rfl hb⟩, hB⟩)
    have HE : Hid (((strL (putL z)).toList == (strL zs).toList) = decide (putL z = zs)) := Lib.hid (str_beq (putL_lt z) HR.out.1)
    generalize putL z = pl at *
    generalize pl.length = m at *
    go_region_with (go_at_call 16; (with_reducible refine (HP.out _).mono ?_); rintro e6 w6 ⟨⟨A6, c6, rfl, hcv6⟩, hb6⟩; have hc6 := (hconv_next HCV hb1 hb6).1)
    all_goals
      go_wp2
      go_ret
      refine ⟨?_, hB.trans ((hb1.trans (Below.mono hb6 hb1.size)).mono hB.size)⟩
      rw [HD.out]
      exact congrArg (fun b => Ending.returned (.bool b)) HE.out

/-- Are bytes a scalar's? -/
def isB (zs : List Nat) : Bool := decide (0 ≤ numZ zs) && decide (putL (numZ zs) = zs)
theorem is_any (A : Option Addr) (zs : List Nat) (n c : Nat) (hn : n = zs.length) (w : World) (hR : BS w w.heap.size A zs) :
    Calls Tryd.prog 17 #[.slice A n c] w fun e w' => e = .returned (.bool (isB zs)) ∧ Below w.heap.size w w' :=
  is_aux A zs n c hn (numZ zs) w hR (number_any A zs n c hn w hR)

end Go.Proofs.YtdhmpnjodcjjpaaDoor
