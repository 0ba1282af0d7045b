/- A row that shows a number, made and copied: the walks of row, slices.Clone and clone. -/
import Derived.Test.YtehfejgalemhaaaNa
import Derived.Deep.RegionLaw
import Derived.Deep.RegionHeld3
namespace Go.Proofs.Ytehfejgalemhaaa
open Go.RowKit

theorem cellL_one (z : Int) : ∀ u ∈ cellL z, u.oneCell' = true := fun u hu => by
  simp only [cellL, List.mem_cons, List.not_mem_nil, or_false] at hu
  rcases hu with rfl | rfl | rfl | rfl | rfl | rfl | rfl | rfl <;> rfl
theorem RV.of_own {w : World} {base : Nat} {v v2 : Value} {r : Int × Bool} (h : w.ownsRow base 53 8 v 1 (cellL r.1)) (h2 : v2 = .bool r.2) : RV (fun b => base ≤ b) w v v2 r := by
  rcases h.2 with ⟨_, h0⟩ | ⟨g, cap, cur, rfl, hb, hh, _, _, _, ht⟩
  · cases h0
  · exact ⟨g, cap, cur, rfl, hb, hh, ht, h2⟩
theorem RV.news {P : Nat → Prop} {w : World} {v1 v2 : Value} {r : Int × Bool} (h : RV P w v1 v2 r) : ∃ b c, v1 = .slice (some ⟨b, 0, none⟩) 1 c ∧ ∀ W, Below w.heap.size w W → ∀ j u, (cellL r.1)[j]? = some u → W.cell? ((⟨b, 0, none⟩ : Addr).add j) = some u := by
  obtain ⟨b, c, rfl, _, hlt, _, hc⟩ := h.cells
  refine ⟨b, c, rfl, fun W hW j u hu => ?_⟩
  rw [Addr.add_mid, Nat.zero_add]
  exact (hW.cell (p := ⟨b, j, none⟩) hlt).trans (hc j u hu).1
theorem info_cell : ∃ i, Try.prog.info? 53 = some i ∧ i.zero = some (.agg #[.int .i32 0, .string ⟨#[]⟩, .int .i64 0, .int .i64 0, .int .i64 0, .int .i64 0, .int .i64 0, .int .i64 0]) ∧ i.size = 8 ∧ i.bytes = 72 := by
  have h : (Try.prog.info? 53).map (fun i => (i.zero, i.size, i.bytes)) = some (some (.agg #[.int .i32 0, .string ⟨#[]⟩, .int .i64 0, .int .i64 0, .int .i64 0, .int .i64 0, .int .i64 0, .int .i64 0]), 8, 72) := by kernel_rfl
  cases hq : Try.prog.info? 53 with
  | none => rw [hq] at h; cases h
  | some i => rw [hq] at h; simp at h; exact ⟨i, rfl, h.1, h.2.1, h.2.2⟩

set_option maxRecDepth 100000 in
set_option maxHeartbeats 2000000 in
theorem sclone_any {P : Nat → Prop} (v1 v2 : Value) (r : Int × Bool) (w : World) (h : RV P w v1 v2 r) :
    Calls Try.prog 32 #[v1] w fun e w' => ∃ g c, e = .returned (.slice (some ⟨g, 0, none⟩) 1 c) ∧ Below w.heap.size w w' ∧ RV (fun b => w.heap.size ≤ b) w' (.slice (some ⟨g, 0, none⟩) 1 c) v2 r := by
  have hne : ∀ (W : World) (a : Option Addr) (n c n' c' : Nat), (binOp .eql 41 (.slice a n c) (.slice none n' c')).run Try.prog W = .ok (.bool a.isNone) W := fun W a n c n' c' => Lib.run_eql_slice_nil W _ _ a n c n' c' Try.underlying41
  obtain ⟨i0, hi0, hz0, hz1, hz2⟩ := info_cell
  obtain ⟨b, c, rfl, hnews⟩ := h.news
  have h2 : v2 = .bool r.2 := by obtain ⟨_, _, _, _, _, _, _, h⟩ := h; exact h
  have HNEW := Lib.hid (hnews (w.alloc (.cells #[] 53)) ((Below.refl w.heap.size w).alloc (Nat.le_refl _) _))
  have HONE := Lib.hid (cellL_one r.1)
  have HOWN : Hid ((w.alloc (.cells #[] 53)).ownsRow w.heap.size 53 8 (.slice (some ⟨w.heap.size, 0, none⟩) 0 0) 0 []) := Lib.hid (World.ownsRow_made w #[] 0 (Nat.le_refl _) (by unfold maxLen; omega) rfl)
  have HEND : Hid (∀ w5 v, (w.alloc (.cells #[] 53)).grownBy w5 (some w.heap.size) → w5.ownsRow w.heap.size 53 8 v (0 + 1) ([] ++ cellL r.1) → Below w.heap.size w w5 ∧ RV (fun b => w.heap.size ≤ b) w5 v v2 r) := Lib.hid fun w5 v hg ho =>
    ⟨((Below.refl w.heap.size w).alloc (Nat.le_refl _) _).grown hg (by simp) (fun k e => by cases e; exact Nat.le_refl _), RV.of_own ho h2⟩
  clear h hnews h2
  go_enter Try.func32, Try.ntmps32
  go_wp2_with (at_builtin; go_must (refine wpList_append_own _ rfl _ _ 41 rfl w.heap.size 53 i0 _ 8 72 Try.underlying41 hi0 hz0 hz1 hz2 rfl (by decide) (.slice (some ⟨w.heap.size, 0, none⟩) 0 0) 0 [] rfl HOWN.out ⟨b, 0, none⟩ 1 c (cellL r.1) rfl rfl HNEW.out HONE.out (by decide) (by decide) (by simp) ?_; intro v5 w5 hown5 hgrow5 _; have HZ := Lib.hid (HEND.out _ _ hgrow5 hown5); clear hown5 hgrow5))
  go_ret
  obtain ⟨hb, hr⟩ := HZ.out
  obtain ⟨g, cg, rfl, _⟩ := hr.cells
  exact ⟨_, _, rfl, hb, hr⟩

/-- Two boxes of a row each, behind calls that turned nothing that lay. -/
theorem box2 {w w' : World} {a b c d : Value} {t t' : TypeId} (h : Below ((w.alloc (.cells #[a, b] t)).alloc (.cells #[c, d] t')).heap.size ((w.alloc (.cells #[a, b] t)).alloc (.cells #[c, d] t')) w') :
    (w'.cell? ⟨w.heap.size, 0, none⟩ = some a ∧ w'.cell? ⟨w.heap.size, 1, none⟩ = some b ∧ w'.cell? ⟨w.heap.size + 1, 0, none⟩ = some c ∧ w'.cell? ⟨w.heap.size + 1, 1, none⟩ = some d) ∧ ∀ k, w'.frozen? ⟨w.heap.size, k, none⟩ = false ∧ w'.frozen? ⟨w.heap.size + 1, k, none⟩ = false := by
  have e0 : w'.heap[w.heap.size]? = some (.cells #[a, b] t (0, 0)) := (h.block _ (by simp; omega)).trans ((heap_alloc_old _ _ (by simp)).trans (heap_alloc_new w _))
  have e1 : w'.heap[w.heap.size + 1]? = some (.cells #[c, d] t' (0, 0)) := (h.block _ (by simp)).trans (by have := heap_alloc_new (w.alloc (.cells #[a, b] t)) (.cells #[c, d] t'); rwa [World.size_alloc] at this)
  exact ⟨⟨cell_of_row _ _ 0 _ _ _ e0, cell_of_row _ _ 1 _ _ _ e0, cell_of_row _ _ 0 _ _ _ e1, cell_of_row _ _ 1 _ _ _ e1⟩, fun k => ⟨by simp [World.frozen?, e0], by simp [World.frozen?, e1]⟩⟩

set_option maxRecDepth 100000 in
set_option maxHeartbeats 2000000 in
theorem clone_any {P : Nat → Prop} (v1 v2 : Value) (r : Int × Bool) (w : World) (h : RV P w v1 v2 r) :
    Calls Try.prog 30 #[.agg #[v1, v2]] w fun e w' => ∃ g c, e = .returned (.agg #[.slice (some ⟨g, 0, none⟩) 1 c, v2]) ∧ Below w.heap.size w w' ∧ RV (fun b => w.heap.size ≤ b) w' (.slice (some ⟨g, 0, none⟩) 1 c) v2 r := by
  have HC : Hid (∀ W, Below w.heap.size w W → Calls Try.prog 32 #[v1] W fun e w' => ∃ g c, e = .returned (.slice (some ⟨g, 0, none⟩) 1 c) ∧ Below W.heap.size W w' ∧ RV (fun b => W.heap.size ≤ b) w' (.slice (some ⟨g, 0, none⟩) 1 c) v2 r) := Lib.hid fun W hW => sclone_any v1 v2 r W (h.past hW)
  obtain ⟨b1, c1, rfl, rfl, _⟩ := h.cells
  have HE : Hid (∀ (o o' : Obj) (w' : World) (v : Value), Below ((w.alloc o).alloc o').heap.size ((w.alloc o).alloc o') w' → RV (fun b => ((w.alloc o).alloc o').heap.size ≤ b) w' v (.bool r.2) r → ∀ v0 v3 v4, Below w.heap.size w (((w'.setCell ⟨w.heap.size, 0, none⟩ v0).setCell ⟨w.heap.size + 1, 0, none⟩ v3).setCell ⟨w.heap.size + 1, 1, none⟩ v4) ∧ RV (fun b => w.heap.size ≤ b) (((w'.setCell ⟨w.heap.size, 0, none⟩ v0).setCell ⟨w.heap.size + 1, 0, none⟩ v3).setCell ⟨w.heap.size + 1, 1, none⟩ v4) v (.bool r.2) r) := Lib.hid fun o o' w' v hb hr v0 v3 v4 => by
    refine ⟨((((((Below.refl w.heap.size w).alloc (Nat.le_refl _) o).alloc (by simp) o').trans (hb.mono (by simp; omega))).setCell (p := ⟨w.heap.size, 0, none⟩) (Nat.le_refl _) _).setCell (p := ⟨w.heap.size + 1, 0, none⟩) (Nat.le_succ _) _).setCell (p := ⟨w.heap.size + 1, 1, none⟩) (Nat.le_succ _) _, ?_⟩
    have hs : ((w.alloc o).alloc o').heap.size = w.heap.size + 2 := by simp
    rw [hs] at hr
    have hr' := hr.kept ((((KB.set (S := fun i => i = w.heap.size ∨ i = w.heap.size + 1) 0 v0 (.inl rfl)).trans (KB.set (S := fun i => i = w.heap.size ∨ i = w.heap.size + 1) 0 v3 (.inr rfl)) (fun _ _ e => e)).trans (KB.set (S := fun i => i = w.heap.size ∨ i = w.heap.size + 1) 1 v4 (.inr rfl)) (fun _ _ e => e))) (fun i cur _ hS hP => by rcases hS with rfl | rfl <;> omega)
    exact hr'.mono (fun b _ hb => Nat.le_trans (by omega) hb)
  clear h
  generalize r.2 = q at *
  go_enter Try.func30, Try.ntmps30
  go_wp2_with (go_at_call 32; go_must (with_reducible refine (HC.out _ (((Below.refl w.heap.size w).alloc (Nat.le_refl _) _).alloc (by simp) _)).mono ?_; rintro e5 w5 ⟨g5, c5, rfl, hb5, hr5⟩; have HZ := Lib.hid (HE.out _ _ _ _ hb5 hr5); obtain ⟨⟨k0, k1, k2, k3⟩, kf⟩ := box2 hb5; have kf0 := fun k => (kf k).1; have kf1 := fun k => (kf k).2; clear hr5 hb5 kf))
  refine bodyPost_ret (v := .agg #[.slice (some ⟨g5, 0, none⟩) 1 c5, .bool q]) (by simp [results, Try.results30, go_sem, k2, k3]) rfl ⟨_, _, rfl, ?_⟩
  exact HZ.out _ _ _

/-- What row answers. -/
def rowZ (n : Int) : Int × Bool := (n, n.tmod 2 == 1)
theorem row_lies (w : World) (n : Int) (o : Obj) (w' : World) (hw : Below ((w.alloc o).alloc (.cells (cellL n).toArray 53)).heap.size ((w.alloc o).alloc (.cells (cellL n).toArray 53)) w') : Below w.heap.size w w' ∧ RV (fun b => w.heap.size ≤ b) w' (.slice (some ⟨w.heap.size + 1, 0, none⟩) 1 1) (.bool (n.tmod 2 == 1)) (rowZ n) := by
  refine ⟨(((Below.refl w.heap.size w).alloc (Nat.le_refl _) o).alloc (by simp) _).trans (hw.mono (by simp; omega)), w.heap.size + 1, 1, (cellL n).toArray, rfl, Nat.le_succ _, (hw.block _ (by simp)).trans ?_, rfl, rfl⟩
  have h := heap_alloc_new (w.alloc o) (.cells (cellL n).toArray 53)
  rwa [World.size_alloc] at h
set_option maxRecDepth 100000 in
set_option maxHeartbeats 2000000 in
theorem row_any (n : Int) (hn : -2147483648 ≤ n ∧ n ≤ 2147483647) (w : World) :
    Calls Try.prog 17 #[.int .i64 n] w fun e w' => ∃ g c, e = .returned (.agg #[.slice (some ⟨g, 0, none⟩) 1 c, .bool (n.tmod 2 == 1)]) ∧ Below w.heap.size w w' ∧ RV (fun b => w.heap.size ≤ b) w' (.slice (some ⟨g, 0, none⟩) 1 c) (.bool (n.tmod 2 == 1)) (rowZ n) := by
  have hw1 : IntKind.i32.wrap n = n := IntWalk.i32_in _ (by omega)
  go_enter Try.func17, Try.ntmps17
  go_wp2
  refine bodyPost_ret (v := .agg #[.slice (some ⟨w.heap.size + 1, 0, none⟩) 1 1, .bool (n.tmod 2 == 1)]) (by simp [results, Try.results17, go_sem]) rfl ⟨_, _, rfl, ?_⟩
  exact row_lies w n _ _ (Below.refl _ _)
end Go.Proofs.Ytehfejgalemhaaa
