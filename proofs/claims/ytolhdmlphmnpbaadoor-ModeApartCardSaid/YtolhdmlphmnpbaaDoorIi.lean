/- The walks of the document's All, First, Has. -/
import Derived.Test.YtolhdmlphmnpbaaDoorIg
namespace Go.Proofs.YtolhdmlphmnpbaaDoor
open Go.RowKit

def allV : Array Value := #[.string ⟨#[52]⟩, .string ⟨#[50, 48]⟩, .string ⟨#[63, 49]⟩, .string ⟨#[63, 53]⟩, .string ⟨#[63, 54]⟩, .string ⟨#[63, 55]⟩, .string ⟨#[63, 50, 53]⟩, .string ⟨#[63, 52, 55]⟩, .string ⟨#[63, 54, 54]⟩, .string ⟨#[63, 49, 48, 48, 48]⟩, .string ⟨#[63, 49, 48, 48, 50]⟩, .string ⟨#[63, 49, 48, 48, 51]⟩, .string ⟨#[63, 49, 48, 48, 52]⟩, .string ⟨#[63, 49, 48, 48, 54]⟩, .string ⟨#[63, 49, 48, 52, 55]⟩, .string ⟨#[63, 49, 48, 52, 56]⟩, .string ⟨#[63, 49, 48, 52, 57]⟩, .string ⟨#[63, 50, 48, 48, 52]⟩]
theorem allV_at (k : Nat) (hk : k < 18) : allV[k]? = some (.string (bsB (tx k))) := by
  rw [show tx k = _ from textM_at k hk]
  rcases (by omega : k = 0 ∨ k = 1 ∨ k = 2 ∨ k = 3 ∨ k = 4 ∨ k = 5 ∨ k = 6 ∨ k = 7 ∨ k = 8 ∨ k = 9 ∨ k = 10 ∨ k = 11 ∨ k = 12 ∨ k = 13 ∨ k = 14 ∨ k = 15 ∨ k = 16 ∨ k = 17) with rfl | rfl | rfl | rfl | rfl | rfl | rfl | rfl | rfl | rfl | rfl | rfl | rfl | rfl | rfl | rfl | rfl | rfl <;> rfl
def allTx : List (List UInt8) := (List.range 18).map tx
theorem allTx_at (k : Nat) (hk : k < 18) : allTx[k]?.getD [] = tx k := by simp [allTx, hk]
theorem allTx_len : allTx.length = 18 := by simp [allTx]
theorem all_list : allTx = listL fun _ => true := by
  unfold allTx listL
  rw [List.filter_eq_self.2 (fun _ _ => rfl)]
theorem all_any (w : World) :
    Calls Tryd.prog 18 #[] w fun e w' => e = .returned (.slice (some ⟨w.heap.size, 0, none⟩) 18 18) ∧ Below w.heap.size w w' ∧ RT w' w'.heap.size (some ⟨w.heap.size, 0, none⟩) allTx := by
  go_enter Tryd.func18, Tryd.ntmps18
  go_wp2
  go_ret
  refine ⟨rfl, belA (Below.refl _ _) _, fun _ => ⟨w.heap.size, 0, rfl, by simp, fun k hk => ?_⟩⟩
  rw [allTx_len] at hk
  rw [Nat.zero_add, cell_of_row _ _ k _ _ _ (heap_alloc_new w _), allTx_at k hk]
  exact allV_at k hk
theorem first_list : [tx 5, tx 6] = listL firstF := by rfl
theorem first_any (w : World) :
    Calls Tryd.prog 9 #[] w fun e w' => e = .returned (.slice (some ⟨w.heap.size, 0, none⟩) 2 2) ∧ Below w.heap.size w w' ∧ RT w' w'.heap.size (some ⟨w.heap.size, 0, none⟩) (listL firstF) := by
  go_enter Tryd.func9, Tryd.ntmps9
  go_wp2
  go_ret
  refine ⟨rfl, belA (Below.refl _ _) _, fun _ => ⟨w.heap.size, 0, rfl, by simp, fun k hk => ?_⟩⟩
  rw [← first_list] at hk ⊢
  rw [Nat.zero_add, cell_of_row _ _ k _ _ _ (heap_alloc_new w _)]
  have e5 := textM_at 5 (by decide)
  have e6 := textM_at 6 (by decide)
  match k, hk with
  | 0, _ => exact congrArg (fun l => some (Value.string (bsB l))) e5.symm
  | 1, _ => exact congrArg (fun l => some (Value.string (bsB l))) e6.symm
theorem cont_yes {L : List (List UInt8)} {x : List UInt8} (k : Nat) (hk : k < L.length) (h : L[k]?.getD [] = x) : L.contains x = true := by
  rw [List.contains_iff_mem, ← h, List.getElem?_eq_getElem hk]
  exact List.getElem_mem hk
theorem cont_no {L : List (List UInt8)} {x : List UInt8} (h : ∀ k, k < L.length → L[k]?.getD [] ≠ x) : L.contains x = false := by
  rw [Bool.eq_false_iff]
  intro hc
  obtain ⟨k, hk, e⟩ := List.mem_iff_getElem.1 (List.contains_iff_mem.1 hc)
  exact h k hk (by rw [List.getElem?_eq_getElem hk]; exact e)
set_option maxRecDepth 100000 in
set_option maxHeartbeats 4000000 in
theorem has_any (A : Option Addr) (L : List (List UInt8)) (n c : Nat) (hn : n = L.length) (h63 : n ≤ 1000000) (x : List UInt8) (w : World) (hR : RT w w.heap.size A L) :
    Calls Tryd.prog 16 #[.slice A n c, .string (bsB x)] w fun e w' => e = .returned (.bool (L.contains x)) ∧ Below w.heap.size w w' := by
  have HN := Lib.hid hn
  have HR := Lib.hid hR
  clear hn hR
  go_enter Tryd.func16, Tryd.ntmps16
  go_wp2
  go_loopw [5] (fun i wr => ∃ k : Nat, k ≤ n ∧ i = .int .i64 k ∧ Hid (∀ j, j < k → L[j]?.getD [] ≠ x) ∧ wr = w) (fun i _ => n - (intOf i).toNat)
  case atStart => exact ⟨0, Nat.zero_le _, rfl, Lib.hid (fun j hj => by omega), rfl⟩
  case round =>
    obtain ⟨k, hk, rfl, HK, rfl⟩ := hrel
    by_cases hlt : k < n
    · obtain ⟨b, off, e, hblt, hc⟩ := HR.out (fun e => by have := HN.out; rw [e] at this; simp at this; omega)
      subst e
      have hck := hc k (HN.out ▸ hlt)
      have hli : (k : Int) < n := by omega
      clear hc hblt
      by_cases hxy : L[k]?.getD [] = x
      · have hxb : ((bsB (L[k]?.getD [])).toList == (bsB x).toList) = true := by rw [bs_toList, bs_toList, hxy]; exact beq_self_eq_true _
        have HZ := Lib.hid (cont_yes k (HN.out ▸ hlt) hxy)
        clear hxy HK
        generalize bsB (L[k]?.getD []) = s1 at *
        generalize bsB x = s2 at *
        go_wp2
        go_ret
        exact ⟨by rw [HZ.out]; rfl, Below.refl _ _⟩
      · have hxb : ((bsB (L[k]?.getD [])).toList == (bsB x).toList) = false := by rw [bs_toList, bs_toList]; exact beq_false_of_ne hxy
        have HKN : Hid (∀ j, j < k + 1 → L[j]?.getD [] ≠ x) := Lib.hid fun j hj => by
          rcases (by omega : j < k ∨ j = k) with h | rfl
          · exact HK.out j h
          · exact hxy
        clear hxy HK
        generalize bsB (L[k]?.getD []) = s1 at *
        go_wp2
        go_roundw
        case rel => exact ⟨k + 1, hlt, by go_num, HKN, trivial⟩
        case measure => simp [intOf]; omega
    · obtain rfl : k = n := by omega
      have HZ := Lib.hid (cont_no (L := L) (x := x) (fun j hj => HK.out j (by have := HN.out; omega)))
      clear HK
      go_wp2
      go_ret
      exact ⟨by rw [HZ.out]; rfl, Below.refl _ _⟩
end Go.Proofs.YtolhdmlphmnpbaaDoor
