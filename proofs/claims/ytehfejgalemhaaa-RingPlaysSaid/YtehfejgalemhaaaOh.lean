/- What 'does' makes of both rings: Fill. -/
import Derived.Test.YtehfejgalemhaaaOg
namespace Go.Proofs.Ytehfejgalemhaaa
open Go.RowKit

def fillN (n : Int) : Nat := min n.toNat 12
set_option maxRecDepth 100000 in
set_option maxHeartbeats 8000000 in
theorem does_fill (w0 w : World) (D M room : Nat) (g : Int) (L : List (Int × Bool)) (B1 B2 : Nat) (h : T2 w0 w D M room g L B1 g L B2) (hroom : room ≤ 1000000) (n : Int) :
    Calls Try.prog 10 #[.pointer (some ⟨D, 0, none⟩), .pointer (some ⟨M, 0, none⟩), .agg #[.int .i64 1, .int .i64 n]] w fun e w' => DoesPost w0 D M room (IntKind.u64.wrap (g + ((fillN n - room : Nat) : Int))) ((LF (fillN n)).drop (fillN n - room)) e w' := by
  have HT := Lib.hid h
  clear h
  obtain ⟨m, hm⟩ : ∃ m, m = fillN n := ⟨_, rfl⟩
  rw [← hm]
  have HM : Hid (m = min n.toNat 12) := Lib.hid hm
  clear hm
  obtain ⟨Ld, hLd⟩ : ∃ Ld, Ld = (LF m).drop (m - room) := ⟨_, rfl⟩
  rw [← hLd]
  have HLD := Lib.hid hLd
  clear hLd
  go_enter Try.func10, Try.ntmps10
  go_wp2
  obtain ⟨W1, hW1⟩ : ∃ W1, W1 = w.alloc (.cells #[.int .i64 1, .int .i64 n] 35) := ⟨_, rfl⟩
  have HW1 := Lib.hid hW1
  have hbox : W1.heap[w.heap.size]? = some (.cells #[.int .i64 1, .int .i64 n] 35 (0, 0)) := by rw [hW1]; exact heap_alloc_new w _
  have HBOX := Lib.hid hbox
  rw [← hW1]
  clear hW1 hbox
  go_loopw [11, 12] (fun v i wr => ∃ (k : Nat) (ys : List Value) (A : Option Addr) (c : Nat), k ≤ m ∧ v = .slice A k c ∧ i = .int .i64 k ∧ Hid (LI W1 wr (.slice A k c) k ys)) (fun _ i _ => 12 - (intOf i).toNat)
  case atStart => exact ⟨0, [], none, 0, Nat.zero_le _, rfl, rfl, Lib.hid ⟨Below.refl _ _, OR.nil _, trivial, fun g e => by simp [Value.ownBlock] at e⟩⟩
  case round =>
    obtain ⟨k, ys, A, c, hk, rfl, rfl, HL⟩ := hrel
    have hx := (HL.out.below.block w.heap.size (Array.getElem?_eq_some_iff.1 HBOX.out).1).trans HBOX.out
    have b0 := cell_of_row _ _ 0 _ _ _ hx
    have b1 := cell_of_row _ _ 1 _ _ _ hx
    have hbl := (Array.getElem?_eq_some_iff.1 hx).1
    clear hx
    have hk12 : k ≤ 12 := by have := HM.out; omega
    by_cases hlt : k < m
    · have hkn : (k : Int) < n := by have := HM.out; omega
      have hkm : (k : Int) < 12 := by have := HM.out; omega
      have hw1 : IntKind.i64.wrap (100 + (k : Int)) = 100 + k := IntWalk.i64_in _ (by omega)
      have hkl : k ≤ 1000000 := by omega
      have HROW : Hid (∀ W, Calls Try.prog 17 #[.int .i64 (100 + (k : Int))] W fun e w' => ∃ g c, e = .returned (.agg #[.slice (some ⟨g, 0, none⟩) 1 c, .bool (rowZ (100 + (k : Int))).2]) ∧ Below W.heap.size W w' ∧ RV (fun _ => True) w' (.slice (some ⟨g, 0, none⟩) 1 c) (.bool (rowZ (100 + (k : Int))).2) (rowZ (100 + (k : Int)))) := Lib.hid fun W => row_q _ (by omega) W
      have HNX : Hid (∀ (w5 w6 : World) (g5 c5 : Nat) (v6 : Value), Below wr.heap.size wr w5 → RV (fun _ => True) w5 (.slice (some ⟨g5, 0, none⟩) 1 c5) (.bool (rowZ (100 + (k : Int))).2) (rowZ (100 + (k : Int))) → OR w6 v6 (k + 1) (ys ++ [.slice (some ⟨g5, 0, none⟩) 1 c5, .bool (rowZ (100 + (k : Int))).2]) → (w5.alloc (.cells #[.slice (some ⟨g5, 0, none⟩) 1 c5, .bool (rowZ (100 + (k : Int))).2] 43)).grownBy w6 (Value.slice A k c).ownBlock → (v6.ownBlock = (Value.slice A k c).ownBlock ∨ v6.ownBlock = some (w5.alloc (.cells #[.slice (some ⟨g5, 0, none⟩) 1 c5, .bool (rowZ (100 + (k : Int))).2] 43)).heap.size) → LI W1 w6 v6 (k + 1) (ys ++ [.slice (some ⟨g5, 0, none⟩) 1 c5, .bool (rowZ (100 + (k : Int))).2])) := Lib.hid fun w5 w6 g5 c5 v6 hb hr ho hg hor => HL.out.next hb hr _ ho hg hor
      have HOW : Hid (∀ (w5 : World) (o : Obj), Below wr.heap.size wr w5 → OR (w5.alloc o) (.slice A k c) k ys) := Lib.hid fun w5 o hb => HL.out.rows.kept (KB.of_below (S := fun _ => False) (hb.alloc hb.size o)) (fun _ _ e => e)
      clear HL
      generalize (rowZ (100 + (k : Int))).2 = q at *
      go_wp2_with (first
        | (go_at_call 17; go_must (with_reducible refine (HROW.out _).mono ?_; rintro e5 w5 ⟨g5, c5, rfl, hb5, hr5⟩; have HB5 := Lib.hid hb5; have HR5 := Lib.hid hr5; clear hb5 hr5))
        | (at_builtin; go_must (refine wpList_append_rows rfl _ _ rfl (.slice A k c) k ys rfl (HOW.out _ _ HB5.out) ⟨w5.heap.size, 0, none⟩ 1 (.slice (some ⟨g5, 0, none⟩) 1 c5) (.bool q) rfl (news_two w5 _ _ _) (by simp [Value.oneCell']) hkl ?_; intro v6 w6 ho6 hg6 hor6; obtain ⟨g6, off6, c6, rfl, hc6⟩ := ho6.form; have HL6 := Lib.hid (HNX.out _ _ _ _ _ HB5.out HR5.out ho6 hg6 hor6); clear ho6 hg6 hor6)))
      go_roundw
      case rel => exact ⟨k + 1, _, _, _, hlt, rfl, by go_num, HL6⟩
      case measure => simp [intOf]; omega
    · obtain rfl : k = m := by omega
      have HKL := Lib.hid (LF_len k)
      have HTw : Hid (T2 w0 wr D M room g L B1 g L B2) := Lib.hid ((HT.out.past (belA (Below.refl _ _) (.cells #[.int .i64 1, .int .i64 n] 35))).past (HW1.out ▸ HL.out.below))
      have hkl : k ≤ 1000000 := by omega
      have HF1 := Lib.hid (HLD.out ▸ fill_t w0 wr D M room g L B1 g L B2 HTw.out hroom A k c ys (LF k) HKL.out.symm hkl HL.out.rows HL.out.each)
      have HF2 := Lib.hid (fun (W : World) (Ba : Nat) (ht : T2 w0 W D M room (IntKind.u64.wrap (g + ((k - room : Nat) : Int))) Ld Ba g L B2) (ho : OR W (.slice A k c) k ys) (hs : RS (fun _ => True) W ys (LF k)) => HLD.out ▸ rfill_t w0 W D M room _ _ Ba g L B2 ht hroom A k c ys (LF k) HKL.out.symm hkl ho hs)
      by_cases hkn : (k : Int) < n
      · have hkm : ¬ (k : Int) < 12 := by have := HM.out; omega
        clear HTw HL HT HKL
        go_wp2_with (first
          | (go_at_call 22; go_must (with_reducible refine HF1.out.mono ?_; rintro e7 w7 ⟨rfl, ht7, ho7, hs7⟩; have HT7 := Lib.hid ht7; have HO7 := Lib.hid ho7; have HS7 := Lib.hid hs7; clear ht7 ho7 hs7 HF1))
          | (go_at_call 26; go_must (with_reducible refine (HF2.out _ _ HT7.out HO7.out HS7.out).mono ?_; rintro e8 w8 ⟨rfl, ht8⟩; have HT8 := Lib.hid ht8; clear ht8 HF2)))
        go_ret
        exact ⟨rfl, _, _, by rw [HLD.out]; exact HT8.out⟩
      · clear HTw HL HT HKL
        go_wp2_with (first
          | (go_at_call 22; go_must (with_reducible refine HF1.out.mono ?_; rintro e7 w7 ⟨rfl, ht7, ho7, hs7⟩; have HT7 := Lib.hid ht7; have HO7 := Lib.hid ho7; have HS7 := Lib.hid hs7; clear ht7 ho7 hs7 HF1))
          | (go_at_call 26; go_must (with_reducible refine (HF2.out _ _ HT7.out HO7.out HS7.out).mono ?_; rintro e8 w8 ⟨rfl, ht8⟩; have HT8 := Lib.hid ht8; clear ht8 HF2)))
        go_ret
        exact ⟨rfl, _, _, by rw [HLD.out]; exact HT8.out⟩
end Go.Proofs.Ytehfejgalemhaaa
