/- tellString's way for a device string. -/
import Derived.Test.YtmmkcfjncpcabaaDoorMt
namespace Go.Proofs.YtmmkcfjncpcabaaDoor
open Go.RowKit

theorem box_facts {w2 : World} {g : Nat} {t : TypeId} {a0 a1 a2 a3 a4 a5 a6 a7 : Value} (h : w2.heap[g]? = some (.cells #[a0, a1, a2, a3, a4, a5, a6, a7] t (0, 0))) :
    (w2.cell? ⟨g, 0, none⟩ = some a0 ∧ w2.cell? ⟨g, 1, none⟩ = some a1 ∧ w2.cell? ⟨g, 2, none⟩ = some a2 ∧ w2.cell? ⟨g, 3, none⟩ = some a3 ∧ w2.cell? ⟨g, 4, none⟩ = some a4 ∧ w2.cell? ⟨g, 5, none⟩ = some a5 ∧ w2.cell? ⟨g, 6, none⟩ = some a6 ∧ w2.cell? ⟨g, 7, none⟩ = some a7) ∧ (w2.frozen? ⟨g, 0, none⟩ = false ∧ w2.frozen? ⟨g, 1, none⟩ = false ∧ w2.frozen? ⟨g, 2, none⟩ = false ∧ w2.frozen? ⟨g, 3, none⟩ = false ∧ w2.frozen? ⟨g, 4, none⟩ = false ∧ w2.frozen? ⟨g, 5, none⟩ = false ∧ w2.frozen? ⟨g, 6, none⟩ = false ∧ w2.frozen? ⟨g, 7, none⟩ = false) := by
  refine ⟨⟨?_, ?_, ?_, ?_, ?_, ?_, ?_, ?_⟩, by simp [World.frozen?, h]⟩
  all_goals exact cell_of_row w2 g _ _ _ _ h
theorem nt1 {w : World} {g : Nat} {cs : Array Value} (hg : w.heap[g]? = some (.cells cs 41 (0, 0))) (k : Nat) (v : Value) : NT w (w.setCell ⟨g, k, none⟩ v) := fun b cur h => by
  have hne : b ≠ g := by
    rintro rfl
    rcases h with h | h <;> (rw [hg] at h; cases h)
  exact heap_setCell_other _ ⟨g, k, none⟩ b v hne
theorem NT.trans' {a b c : World} (h : NT a b) (k : NT b c) : NT a c := fun g cur hg => by
  have e := h g cur hg
  exact (k g cur (hg.imp (fun x => e.trans x) (fun x => e.trans x))).trans e
def dcsP (s : PM) : PE := ⟨5, 0, s.last, s.pre, HZ s.head, bsB s.inter, bsB s.pay, s.cut⟩
set_option maxRecDepth 100000 in
set_option maxHeartbeats 4000000 in
theorem string_dcs {w : World} {D : Nat} {s : PM} {es : List PE} {a : PV} (h : MI w D s es a) (hG : GP s) (hm : ML w) (hmd : 2 < D) (hn : es.length ≤ 100000) (hs : s.wrong = false) (hst : s.state = 3) (hla : ¬ s.last = 0) : Calls Tryd.prog 35 #[.pointer (some ⟨D, 0, none⟩)] w (OK D s (es ++ [dcsP s]) a w) := by
  have hw : a.wrong = .bool false := h.wrong.trans (by rw [hs])
  have hstate : a.state = .int .i64 3 := h.state.trans (by rw [hst])
  obtain ⟨A5, c5', hv5, _⟩ := own_form h.pay
  have hlt := lt_of_block h.blk
  have HN : Hid (∀ o, Calls Tryd.prog 44 #[.pointer (some ⟨D, 0, none⟩), .int .i64 5, .int .u8 s.last] (w.alloc o) (NumPost 5 s.last s.pre s.head s.inter (w.alloc o))) := Lib.hid fun o => numbered_mi (h.past ((Below.refl _ _).alloc (Nat.le_refl _) o)).1 hG (hm.imp fun ml hml => (((Below.refl w.heap.size w).alloc (Nat.le_refl _) o).cell (p := ⟨2, 0, none⟩) (Nat.lt_trans hmd hlt)).trans hml) 5 s.last
  have c3 : w.cell? ⟨D, 3, none⟩ = some a.wrong := h.blk.cell 3
  have c7 : w.cell? ⟨D, 7, none⟩ = some a.state := h.blk.cell 7
  have c4 : w.cell? ⟨D, 4, none⟩ = some a.last := h.blk.cell 4
  rw [hw] at c3
  rw [hstate] at c7
  rw [h.last] at c4
  have e0 : (s.last == 0) = false := by simpa using hla
  have e1 : (s.last != 0) = true := by simpa using hla
  have HT : Hid (∀ A c W, RGt W A (HZ s.head) → Below w.heap.size w W → Calls Tryd.prog 43 #[.pointer (some ⟨D, 0, none⟩), .agg #[.int .i64 5, .int .i32 0, .int .u8 s.last, .int .u8 s.pre, .slice A (HZ s.head).length c, .string (bsB s.inter), .string (bsB s.pay), .bool s.cut]] W (fun e w' => e = .returned (.tuple #[]) ∧ TO D s (es ++ [dcsP s]) a w w')) := Lib.hid fun A c W hr hb => by
    obtain ⟨h2, hf⟩ := h.past hb
    exact (tell_mi h2 hn ⟨5, 0, s.last, s.pre, .slice A (HZ s.head).length c, bsB s.inter, bsB s.pay, s.cut⟩ (dcsP s) ⟨rfl, rfl, rfl, rfl, rfl, rfl, rfl, A, c, rfl, hr⟩).mono fun _ _ ⟨h3, h4⟩ => ⟨h3, TO.trans hf h4⟩
  have HK : Hid (∀ o w2, Below (w.alloc o).heap.size (w.alloc o) w2 → w2.heap[w.heap.size]? = some o) := Lib.hid fun o w2 hb => (hb.block _ (by simp)).trans (heap_alloc_new w o)
  have hcv1 : ∀ W, Below w.heap.size w W → (Go.convert 22 9 (.slice A5 s.pay.length c5')).run Tryd.prog W = .ok (.string (bsB s.pay)) W := fun W hW => conv_own (own_past (by rw [← hv5]; exact h.pay) hW) rfl
  have k5 : w.cell? ⟨D, 5, none⟩ = some a.pay := h.blk.cell 5
  have k6 : w.cell? ⟨D, 6, none⟩ = some a.cut := h.blk.cell 6
  rw [hv5] at k5
  rw [h.cut] at k6
  have HX : Hid (∀ o w2 A2 c2 last pre S (G : List (List Int)) v6 v7, o = .cells #[.int .i64 0, .int .i32 0, .int .u8 0, .int .u8 0, .slice none 0 0, .string ⟨#[]⟩, .string ⟨#[]⟩, .bool false] 41 → Below (w.alloc o).heap.size (w.alloc o) w2 → RGt w2 A2 G → ∃ W3, W3 = ((((((((w2.setCell ⟨w.heap.size, 0, none⟩ (.int .i64 5)).setCell ⟨w.heap.size, 1, none⟩ (.int .i32 0)).setCell ⟨w.heap.size, 2, none⟩ (.int .u8 last)).setCell ⟨w.heap.size, 3, none⟩ (.int .u8 pre)).setCell ⟨w.heap.size, 4, none⟩ (.slice A2 G.length c2)).setCell ⟨w.heap.size, 5, none⟩ (.string S)).setCell ⟨w.heap.size, 6, none⟩ (.string v6)).setCell ⟨w.heap.size, 7, none⟩ (.bool v7)) ∧ W3.cell? ⟨D, 5, none⟩ = some (.slice A5 s.pay.length c5') ∧ W3.cell? ⟨D, 6, none⟩ = some (.bool s.cut) ∧ (Go.convert 22 9 (.slice A5 s.pay.length c5')).run Tryd.prog W3.drew = .ok (.string (bsB s.pay)) W3.drew ∧ W3.heap[w.heap.size]? = some (.cells #[.int .i64 5, .int .i32 0, .int .u8 last, .int .u8 pre, .slice A2 G.length c2, .string S, .string v6, .bool v7] 41 (0, 0)) ∧ Hid (∀ b6 b7, (RGt ((W3.setCell ⟨w.heap.size, 6, none⟩ b6).setCell ⟨w.heap.size, 7, none⟩ b7).drew A2 G ∧ Below w.heap.size w ((W3.setCell ⟨w.heap.size, 6, none⟩ b6).setCell ⟨w.heap.size, 7, none⟩ b7).drew) ∧ RGt ((W3.setCell ⟨w.heap.size, 7, none⟩ b7).setCell ⟨w.heap.size, 6, none⟩ b6).drew A2 G ∧ Below w.heap.size w ((W3.setCell ⟨w.heap.size, 7, none⟩ b7).setCell ⟨w.heap.size, 6, none⟩ b6).drew)) := Lib.hid fun o w2 A2 c2 last pre S G v6 v7 ho hb hr => by
    subst ho
    have hbox := (hb.block w.heap.size (by simp)).trans (heap_alloc_new w _)
    have hW2 : Below w.heap.size w w2 := ((Below.refl _ _).alloc (Nat.le_refl _) _).trans (hb.mono (by simp))
    have hW3 := below8 hW2 (Nat.le_refl _) (.int .i64 5) (.int .i32 0) (.int .u8 last) (.int .u8 pre) (.slice A2 G.length c2) (.string S) (.string v6) (.bool v7)
    have hN := nt8 hbox (.int .i64 5) (.int .i32 0) (.int .u8 last) (.int .u8 pre) (.slice A2 G.length c2) (.string S) (.string v6) (.bool v7)
    have hB := box8 hbox (.int .i64 5) (.int .i32 0) (.int .u8 last) (.int .u8 pre) (.slice A2 G.length c2) (.string S) (.string v6) (.bool v7)
    obtain ⟨W3, e3⟩ : ∃ W3, W3 = ((((((((w2.setCell ⟨w.heap.size, 0, none⟩ (.int .i64 5)).setCell ⟨w.heap.size, 1, none⟩ (.int .i32 0)).setCell ⟨w.heap.size, 2, none⟩ (.int .u8 last)).setCell ⟨w.heap.size, 3, none⟩ (.int .u8 pre)).setCell ⟨w.heap.size, 4, none⟩ (.slice A2 G.length c2)).setCell ⟨w.heap.size, 5, none⟩ (.string S)).setCell ⟨w.heap.size, 6, none⟩ (.string v6)).setCell ⟨w.heap.size, 7, none⟩ (.bool v7)) := ⟨_, rfl⟩
    rw [← e3] at hW3 hN hB
    have hr3 := hr.kept hN
    refine ⟨W3, e3, (hW3.cell (p := ⟨D, 5, none⟩) hlt).trans k5, (hW3.cell (p := ⟨D, 6, none⟩) hlt).trans k6, hcv1 _ hW3.drew, hB, Lib.hid fun b6 b7 => ⟨⟨?_, ?_⟩, ?_, ?_⟩⟩
    · exact hr3.kept ((nt1 hB 6 b6).trans' (nt1 (heap_setCell_same _ _ 6 _ _ b6 hB) 7 b7)).drew
    · exact ((hW3.setCell (p := ⟨w.heap.size, 6, none⟩) (Nat.le_refl _) b6).setCell (p := ⟨w.heap.size, 7, none⟩) (Nat.le_refl _) b7).drew
    · exact hr3.kept ((nt1 hB 7 b7).trans' (nt1 (heap_setCell_same _ _ 7 _ _ b7 hB) 6 b6)).drew
    · exact ((hW3.setCell (p := ⟨w.heap.size, 7, none⟩) (Nat.le_refl _) b7).setCell (p := ⟨w.heap.size, 6, none⟩) (Nat.le_refl _) b6).drew
  unfold OK
  unfold NumPost at HN
  generalize dcsP s = E at *
  generalize HZ s.head = G at *
  generalize bsB s.inter = S at *
  generalize s.pre = pre at *
  generalize s.last = last at *
  generalize bsB s.pay = S5 at *
  generalize s.pay.length = n5 at *
  generalize s.cut = b5 at *
  have HI := Lib.hid h
  clear h hG hm hn hs hst hw hstate hv5 hcv1
  go_enter Tryd.func35, Tryd.ntmps35
  go_wp2_with (go_at_call 44; (with_reducible refine (HN.out _).mono ?_); rintro e w2 ⟨A2, c2, rfl, hr2, hb2⟩; have HR2 := Lib.hid hr2; have HB2 := Lib.hid hb2; clear hr2 hb2; obtain ⟨⟨b0, b1, b2, b3, b4, b5, b6, b7⟩, f0, f1, f2, f3, f4, f5, f6, f7⟩ := box_facts (HK.out _ _ HB2.out))
  obtain ⟨W3, e3, k5, k6, kc, kb, HRZ⟩ := HX.out _ w2 A2 c2 last pre S G ⟨#[]⟩ false rfl HB2.out HR2.out
  rw [← e3]
  clear e3 b0 b1 b2 b3 b4 b5 b6 b7 f0 f1 f2 f3 f4 f5 f6 f7
  obtain ⟨⟨b0, b1, b2, b3, b4, b5, b6, b7⟩, f0, f1, f2, f3, f4, f5, f6, f7⟩ := box_facts kb
  go_region_law fail
  all_goals go_wp2_with (go_at_call 43; (with_reducible first | refine (HT.out _ _ _ (HRZ.out _ _).1.1 (HRZ.out _ _).1.2).mono ?_ | refine (HT.out _ _ _ (HRZ.out _ _).2.1 (HRZ.out _ _).2.2).mono ?_); rintro e w4 ⟨rfl, hp⟩; have HP4 := Lib.hid hp; clear hp)
  all_goals
    go_end0
    exact ⟨rfl, HP4.out⟩

end Go.Proofs.YtmmkcfjncpcabaaDoor
