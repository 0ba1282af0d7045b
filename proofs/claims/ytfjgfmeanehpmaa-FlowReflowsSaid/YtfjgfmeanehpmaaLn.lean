/- The walks of the document's Places, of a copy of places and of a width that may not be. -/
import Derived.Test.YtfjgfmeanehpmaaLk
namespace Go.Proofs.Ytfjgfmeanehpmaa
open Go.RowKit

set_option maxRecDepth 100000 in
set_option maxHeartbeats 8000000 in
/-- Places that read the same are the same. -/
theorem refPlaces_any (A A' : Option Addr) (ps : List (Int × Int)) (n c c' : Nat) (hn : n = ps.length) (hl : n ≤ 1000000) (w : World) (h : RK encPI 2 w A ps) (h' : RK encPI 2 w A' ps) :
    Calls Try.prog 27 #[.slice A n c, .slice A' n c'] w fun e w' => e = .returned (.bool true) ∧ Below w.heap.size w w' := by
  have HR := Lib.hid h
  have HR' := Lib.hid h'
  have HN := Lib.hid hn
  have hg := guardPosF
  have HE := eqPosF_self
  clear h h' hn
  go_enter Try.func27, Try.ntmps27
  go_wp2_with fail
  go_loopw [5] (fun q wr => ∃ i : Nat, q = .int .i64 i ∧ i ≤ n ∧ Hid (Below w.heap.size w wr)) (fun q _ => n - (intOf q).toNat)
  case atStart => exact ⟨0, rfl, Nat.zero_le _, Lib.hid (Below.refl _ _)⟩
  case round =>
    obtain ⟨i, rfl, hi, HB⟩ := hrel
    by_cases hlt : i < n
    · have hlti : (i : Int) < n := by omega
      obtain ⟨⟨z, c0⟩, hp⟩ : ∃ p, ps[i]? = some p := ⟨_, List.getElem?_eq_getElem (by have := HN.out; omega)⟩
      obtain ⟨b1, off1, rfl, _, hc1⟩ := HR.out.past HB.out (fun e => by rw [e] at hp; simp at hp)
      obtain ⟨b2, off2, rfl, _, hc2⟩ := HR'.out.past HB.out (fun e => by rw [e] at hp; simp at hp)
      have q0 : wr.cell? ⟨b1, off1 + i * 2, none⟩ = some (.int .i64 z) := hc1 i _ hp 0 _ rfl
      have q1 : wr.cell? ⟨b1, off1 + i * 2 + 1, none⟩ = some (.int .i64 c0) := hc1 i _ hp 1 _ rfl
      have q2 : wr.cell? ⟨b2, off2 + i * 2, none⟩ = some (.int .i64 z) := hc2 i _ hp 0 _ rfl
      have q3 : wr.cell? ⟨b2, off2 + i * 2 + 1, none⟩ = some (.int .i64 c0) := hc2 i _ hp 1 _ rfl
      clear hc1 hc2 hp
      go_wp2
      go_quiet (fail)
      go_wp2
      go_roundw
      case rel => exact ⟨i + 1, by go_num, hlt, Lib.hid (bel0 HB.out (belN' _ _))⟩
      case measure => simp [intOf]; omega
    · obtain rfl : i = n := by omega
      go_wp2
      go_ret
      exact ⟨rfl, HB.out⟩
end Go.Proofs.Ytfjgfmeanehpmaa
