/- The walk of Push. -/
import Derived.Test.YtehfejgalemhaaaNd
namespace Go.Proofs.Ytehfejgalemhaaa
open Go.RowKit

theorem news_two (W : World) (x y : Value) (t : TypeId) : ∀ (j : Nat) (u : Value), [x, y][j]? = some u → (W.alloc (.cells #[x, y] t)).cell? ((⟨W.heap.size, 0, none⟩ : Addr).add j) = some u := fun j u hj => by
  rw [Addr.add_mid, Nat.zero_add]
  exact (cell_of_row _ _ _ _ _ _ (heap_alloc_new W _)).trans (by simpa using hj)
theorem RM.after {P : Nat → Prop} {w7 : World} {D : Nat} {v : Value} {room : Nat} {gone : Int} {L : List (Int × Bool)} {xs : List Value} (h : RM P w7 D v room gone L xs) (M : Nat) {cur : Array Value} (hM : w7.heap[M]? = some (.cells cur 43 (0, 0))) (hMD : M ≠ D) (hMg : ∀ g, v.ownBlock = some g → g ≠ M) (x y : Value) :
    RM P ((w7.drew.setCell ⟨M, 0, none⟩ x).setCell ⟨M, 1, none⟩ y) D v room gone L xs ∧ KB (fun i => i = M) w7 ((w7.drew.setCell ⟨M, 0, none⟩ x).setCell ⟨M, 1, none⟩ y) := by
  have hd : KB (fun i => i = M) w7 w7.drew := KB.of_below (Below.refl _ _).drew
  have hk := hd.trans ((KB.set (S := fun i => i = M) (w := w7.drew) 0 x rfl).trans (KB.set (S := fun i => i = M) 1 y rfl) fun _ _ e => e) fun _ _ e => e
  refine ⟨h.kept hk (fun e => hMD e.symm) hMg (fun i c hi hS _ hc => ?_), hk⟩
  subst hS
  rw [hM] at hc
  injection hc with hc
  injection hc with _ e _
  exact absurd e (by decide)
theorem RM.drew {P : Nat → Prop} {w : World} {D : Nat} {v : Value} {room : Nat} {gone : Int} {L : List (Int × Bool)} {xs : List Value} (h : RM P w D v room gone L xs) : RM P w.drew D v room gone L xs := h.past (Below.refl _ _).drew
def PushPost (P : Nat → Prop) (w : World) (D : Nat) (v : Value) (room : Nat) (gone : Int) (L : List (Int × Bool)) (r : Int × Bool) (e : Ending) (w' : World) : Prop :=
  ∃ A c gone' L' xs' o1 o2 ok, e = .returned (.tuple #[.agg #[o1, o2], .bool ok]) ∧ RM P w' D (.slice A L'.length c) room gone' L' xs' ∧ KB (fun i => i = D ∨ some i = v.ownBlock) w w' ∧
    ((Value.slice A L'.length c).ownBlock = v.ownBlock ∨ ∃ g, (Value.slice A L'.length c).ownBlock = some g ∧ w.heap.size ≤ g) ∧
    ((L.length + 1 ≤ room ∧ ok = false ∧ L' = L ++ [r] ∧ gone' = gone ∧ o1 = .slice none 0 0 ∧ o2 = .bool false) ∨
     (room < L.length + 1 ∧ ok = true ∧ L' = (L ++ [r]).tail ∧ gone' = IntKind.u64.wrap (gone + 1) ∧ RV P w' o1 o2 ((L ++ [r]).headD (0, false))))

set_option maxRecDepth 100000 in
set_option maxHeartbeats 4000000 in
theorem push_any {P : Nat → Prop} (w : World) (D : Nat) (v v1 v2 : Value) (room : Nat) (gone : Int) (L : List (Int × Bool)) (xs : List Value) (r : Int × Bool) (h : RM P w D v room gone L xs) (hP : ∀ b, w.heap.size ≤ b → P b) {P2 : Nat → Prop} (hr : RV P2 w v1 v2 r) (hl : L.length ≤ 1000000) (hroom : room ≤ 1000000) :
    Calls Try.prog 16 #[.pointer (some ⟨D, 0, none⟩), .agg #[v1, v2]] w fun e w' => PushPost P w D v room gone L r e w' := by
  have HC : Hid (∀ W, Below w.heap.size w W → Calls Try.prog 30 #[.agg #[v1, v2]] W fun e w' => ∃ g c, e = .returned (.agg #[.slice (some ⟨g, 0, none⟩) 1 c, v2]) ∧ Below W.heap.size W w' ∧ RV (fun b => W.heap.size ≤ b) w' (.slice (some ⟨g, 0, none⟩) 1 c) v2 r) := Lib.hid fun W hW => clone_any v1 v2 r W (hr.past hW)
  obtain ⟨b1, c1, rfl, rfl, _⟩ := hr.cells
  obtain ⟨⟨d0, d1, d2⟩, df⟩ := h.cells
  have hlt := h.lt
  obtain ⟨A, c, rfl⟩ := h.rows.shape
  have HM := Lib.hid h
  have HPB := Lib.hid hP
  clear h hP hr
  have HA : Hid (Below w.heap.size w ((w.alloc (.cells #[.slice (some ⟨b1, 0, none⟩) 1 c1, .bool r.2] 43)).alloc (.cells #[.slice none 0 0, .bool false] 43))) := Lib.hid (((Below.refl w.heap.size w).alloc (Nat.le_refl _) _).alloc (by simp) _)
  have HRB : Hid (r.2 = r.2) := Lib.hid rfl
  have HMID : Hid (∀ (w5 w6 : World) (g5 c5 : Nat) (v6 : Value), Below ((w.alloc (.cells #[.slice (some ⟨b1, 0, none⟩) 1 c1, .bool r.2] 43)).alloc (.cells #[.slice none 0 0, .bool false] 43)).drew.heap.size ((w.alloc (.cells #[.slice (some ⟨b1, 0, none⟩) 1 c1, .bool r.2] 43)).alloc (.cells #[.slice none 0 0, .bool false] 43)).drew w5 →
      RV (fun b => ((w.alloc (.cells #[.slice (some ⟨b1, 0, none⟩) 1 c1, .bool r.2] 43)).alloc (.cells #[.slice none 0 0, .bool false] 43)).drew.heap.size ≤ b) w5 (.slice (some ⟨g5, 0, none⟩) 1 c5) (.bool r.2) r →
      OR w6 v6 (L.length + 1) (xs ++ [.slice (some ⟨g5, 0, none⟩) 1 c5, .bool r.2]) → (w5.alloc (.cells #[.slice (some ⟨g5, 0, none⟩) 1 c5, .bool r.2] 43)).grownBy w6 (Value.slice A L.length c).ownBlock → (v6.ownBlock = (Value.slice A L.length c).ownBlock ∨ v6.ownBlock = some (w5.alloc (.cells #[.slice (some ⟨g5, 0, none⟩) 1 c5, .bool r.2] 43)).heap.size) →
      (w6.cell? ⟨D, 0, none⟩ = some (.slice A L.length c) ∧ w6.frozen? ⟨D, 0, none⟩ = false) ∧ RM P (w6.setCell ⟨D, 0, none⟩ v6) D v6 room gone (L ++ [r]) (xs ++ [.slice (some ⟨g5, 0, none⟩) 1 c5, .bool r.2]) ∧ KB (fun i => i = D ∨ some i = (Value.slice A L.length c).ownBlock) w (w6.setCell ⟨D, 0, none⟩ v6) ∧
      (w6.setCell ⟨D, 0, none⟩ v6).heap[w.heap.size]? = some (.cells #[.slice (some ⟨b1, 0, none⟩) 1 c1, .bool r.2] 43 (0, 0)) ∧ (w6.setCell ⟨D, 0, none⟩ v6).heap[w.heap.size + 1]? = some (.cells #[.slice none 0 0, .bool false] 43 (0, 0)) ∧
      (v6.ownBlock = (Value.slice A L.length c).ownBlock ∨ ∃ g, v6.ownBlock = some g ∧ w.heap.size + 1 < g)) := Lib.hid fun w5 w6 g5 c5 v6 hb5 hr5 ho6 hg6 hor => by
    have hb5' := belD hb5
    have hs : ((w.alloc (.cells #[.slice (some ⟨b1, 0, none⟩) 1 c1, .bool r.2] 43)).alloc (.cells #[.slice none 0 0, .bool false] 43)).drew.heap.size = w.heap.size + 2 := by simp
    rw [hs] at hr5
    exact push_mid HM.out HPB.out hb5' (hr5.mono fun b _ hb => Nat.le_trans (by omega) hb) _ ho6 hg6 hor
  have HOWN : Hid (∀ (w5 : World) (o : Obj), Below ((w.alloc (.cells #[.slice (some ⟨b1, 0, none⟩) 1 c1, .bool r.2] 43)).alloc (.cells #[.slice none 0 0, .bool false] 43)).drew.heap.size ((w.alloc (.cells #[.slice (some ⟨b1, 0, none⟩) 1 c1, .bool r.2] 43)).alloc (.cells #[.slice none 0 0, .bool false] 43)).drew w5 → OR (w5.alloc o) (.slice A L.length c) L.length xs) := Lib.hid fun w5 o hb5 =>
    (HM.out.past (bel0 (belA (belA (Below.refl w.heap.size w) _) _) ((belD hb5).alloc (belD hb5).size o))).rows
  have HD5 : Hid (∀ (w5 : World), Below ((w.alloc (.cells #[.slice (some ⟨b1, 0, none⟩) 1 c1, .bool r.2] 43)).alloc (.cells #[.slice none 0 0, .bool false] 43)).drew.heap.size ((w.alloc (.cells #[.slice (some ⟨b1, 0, none⟩) 1 c1, .bool r.2] 43)).alloc (.cells #[.slice none 0 0, .bool false] 43)).drew w5 → w5.cell? ⟨D, 0, none⟩ = some (.slice A L.length c) ∧ ∀ o, (w5.alloc o).cell? ⟨D, 0, none⟩ = some (.slice A L.length c)) := Lib.hid fun w5 hb5 =>
    ⟨(HM.out.past (bel0 (belA (belA (Below.refl w.heap.size w) _) _) (belD hb5))).cells.1.1, fun o => (HM.out.past (bel0 (belA (belA (Below.refl w.heap.size w) _) _) ((belD hb5).alloc (belD hb5).size o))).cells.1.1⟩
  generalize hq : r.2 = q at *
  have HQ := Lib.hid hq
  clear hq HRB
  go_enter Try.func16, Try.ntmps16
  go_wp2_with fail
  go_region_law (first
    | (go_simp; go_at_call 30; (with_reducible refine (HC.out _ ?_).mono ?_); (first | exact HA.out | exact HA.out.drew); rintro e5 w5 ⟨g5, c5, rfl, hb5, hr5⟩; obtain ⟨d50, d51⟩ := HD5.out _ hb5; have HB5 := Lib.hid hb5; have HR5 := Lib.hid hr5; clear hb5 hr5)
    | ((refine step_append_rows rfl _ _ rfl (.slice A L.length c) L.length xs rfl (HOWN.out _ _ HB5.out) ⟨w5.heap.size, 0, none⟩ 1 (.slice (some ⟨g5, 0, none⟩) 1 c5) (.bool q) rfl (news_two w5 _ _ _) (by simp [Value.oneCell']) hl ?_); intro v6 w6 ho6 hg6 hor6; obtain ⟨g6, off6, c6, rfl, hc6⟩ := ho6.form; obtain ⟨⟨e0, ef⟩, hm7, hk7, hN7, hN8, hor7⟩ := HMID.out _ _ _ _ _ HB5.out HR5.out ho6 hg6 hor6; have HM7 := Lib.hid hm7; have HK7 := Lib.hid hk7; have HN7 := Lib.hid hN7; have HN8 := Lib.hid hN8; have HOR := Lib.hid hor7; clear ho6 hg6 hor6 hm7 hk7 hN7 hN8 hor7))
  all_goals
    clear d0 d1 d2 df HB5 HR5 HMID HOWN HD5 HC HA d50 d51 e0 ef
    generalize w6.setCell ⟨D, 0, none⟩ (.slice (some ⟨g6, off6, none⟩) (L.length + 1) c6) = w7 at *
    obtain ⟨⟨d0, d1, d2⟩, df⟩ := HM7.out.cells
    have hlt7 : D < w7.heap.size := HM7.out.lt
    have hg6 : (Value.slice (some (⟨g6, off6, none⟩ : Addr)) (L.length + 1) c6).ownBlock = some g6 := rfl
    have hlw : ∀ g, (Value.slice A L.length c).ownBlock = some g → g < w.heap.size := fun g e => (HM.out.rows.lt g e).1
    have hgN : g6 ≠ w.heap.size + 1 ∧ g6 ≠ w.heap.size := by
      rcases HOR.out with e | ⟨g, e, hg⟩
      · have := hlw g6 (e.symm.trans hg6); omega
      · rw [hg6] at e; injection e with e; omega
    have hDN : w.heap.size + 1 ≠ D := by omega
    have n0 : w7.cell? ⟨w.heap.size + 1, 0, none⟩ = some (.slice none 0 0) := cell_of_row _ _ 0 _ _ _ HN8.out
    have n1 : w7.cell? ⟨w.heap.size + 1, 1, none⟩ = some (.bool false) := cell_of_row _ _ 1 _ _ _ HN8.out
    have nf : ∀ k, w7.frozen? ⟨w.heap.size + 1, k, none⟩ = false := fun k => by have := HN8.out; simp [World.frozen?, this]
    have hnlt : w.heap.size + 1 < w7.heap.size := (Array.getElem?_eq_some_iff.1 HN8.out).1
    have HOR2 : Hid ((Value.slice (some (⟨g6, off6, none⟩ : Addr)) (L.length + 1) c6).ownBlock = (Value.slice A L.length c).ownBlock ∨ ∃ g, (Value.slice (some (⟨g6, off6, none⟩ : Addr)) (L.length + 1) c6).ownBlock = some g ∧ w.heap.size ≤ g) := Lib.hid (HOR.out.imp id fun ⟨g, e, hg⟩ => ⟨g, e, by omega⟩)
    by_cases hfit : L.length + 1 ≤ room
    · have hle : (L.length : Int) + 1 ≤ room := by omega
      have HFIN : Hid (∀ x y, PushPost P w D (.slice A L.length c) room gone L r (.returned (.tuple #[.agg #[.slice none 0 0, .bool false], .bool false])) ((w7.drew.setCell ⟨w.heap.size + 1, 0, none⟩ x).setCell ⟨w.heap.size + 1, 1, none⟩ y)) := Lib.hid fun x y => by
        obtain ⟨h1, h2⟩ := HM7.out.after (w.heap.size + 1) HN8.out hDN (fun g e => by rw [hg6] at e; injection e with e; omega) x y
        refine ⟨some ⟨g6, off6, none⟩, c6, gone, L ++ [r], _, _, _, false, rfl, by rw [List.length_append]; exact h1, HK7.out.trans h2 (fun i hi e => by omega), by rw [List.length_append]; exact HOR2.out, .inl ⟨hfit, rfl, rfl, rfl, rfl, rfl⟩⟩
      clear HM HPB HM7 HK7 HN7 HN8 HOR HOR2 hlw
      go_wp2_with fail
      go_region
      go_wp2
      refine bodyPost_ret (v := .tuple #[.agg #[.slice none 0 0, .bool false], .bool false]) (by simp [results, Try.results16, go_sem, n0, n1]) rfl ?_
      exact HFIN.out _ _
    · have hle : ¬ (L.length : Int) + 1 ≤ room := by omega
      have HM8 := Lib.hid HM7.out.drew
      have HN9 : Hid (w7.drew.heap[w.heap.size + 1]? = some (.cells #[.slice none 0 0, .bool false] 43 (0, 0))) := Lib.hid HN8.out
      have HK8 : Hid (KB (fun i => i = D ∨ some i = (Value.slice A L.length c).ownBlock) w w7.drew) := Lib.hid (HK7.out.trans (KB.of_below (S := fun _ => False) (Below.refl _ _).drew) fun _ _ e => e.elim)
      go_wp2_with fail
      go_region
      have hz8 : w7.drew.heap.size = w7.heap.size := rfl
      clear HM7 HN8 HK7 d0 d1 d2 df n0 n1 nf hlt7 HN7
      rw [← hz8] at hnlt
      clear hz8
      generalize w7.drew = w8 at *
      obtain ⟨h0, T, hsplit⟩ : ∃ h0 T, L ++ [r] = h0 :: T := by cases L <;> exact ⟨_, _, rfl⟩
      obtain ⟨a, b, ys, hxs⟩ : ∃ a b ys, xs ++ [.slice (some ⟨g5, 0, none⟩) 1 c5, .bool q] = a :: b :: ys := by
        have := HM8.out.each
        rw [hsplit] at this
        match xs ++ [.slice (some ⟨g5, 0, none⟩) 1 c5, .bool q], this with
        | a :: b :: ys, _ => exact ⟨a, b, ys, rfl⟩
        | [_], h => cases h
        | [], h => exact h.elim
      have hTl : T.length = L.length := by have := congrArg List.length hsplit; simp at this; omega
      have HM9 : Hid (RM P w8 D (.slice (some ⟨g6, off6, none⟩) (T.length + 1) c6) room gone (h0 :: T) (a :: b :: ys)) := Lib.hid (by have := HM8.out; rwa [hsplit, hxs, ← hTl] at this)
      have hr0 := HM9.out.each.1
      obtain ⟨b0, c0, rfl, rfl, _⟩ := hr0.cells
      have hc6' : L.length + 1 ≤ c6 := by omega
      have HFIN : Hid (∀ (off' c' : Nat), OR w8 (.slice (some ⟨g6, off', none⟩) L.length c') L.length ys → (ys = [] ∨ off6 + 2 ≤ off') → ∀ (o : Obj) (x y x3 x4 : Value), PushPost P w D (.slice A L.length c) room gone L r (.returned (.tuple #[.agg #[.slice (some ⟨b0, 0, none⟩) 1 c0, .bool h0.2], .bool true])) (((((((w8.setCell ⟨g6, off6, none⟩ x).setCell ⟨g6, off6 + 1, none⟩ y).setCell ⟨D, 0, none⟩ (.slice (some ⟨g6, off', none⟩) L.length c')).setCell ⟨D, 2, none⟩ (.int .u64 (IntKind.u64.wrap (gone + 1)))).setCell ⟨w.heap.size + 1, 0, none⟩ x3).setCell ⟨w.heap.size + 1, 1, none⟩ x4).alloc o) ∧ (((((((w8.setCell ⟨g6, off6, none⟩ x).setCell ⟨g6, off6 + 1, none⟩ y).setCell ⟨D, 0, none⟩ (.slice (some ⟨g6, off', none⟩) L.length c')).setCell ⟨D, 2, none⟩ (.int .u64 (IntKind.u64.wrap (gone + 1)))).setCell ⟨w.heap.size + 1, 0, none⟩ x3).setCell ⟨w.heap.size + 1, 1, none⟩ x4).alloc o).cell? ⟨w.heap.size + 1, 0, none⟩ = some x3 ∧ (((((((w8.setCell ⟨g6, off6, none⟩ x).setCell ⟨g6, off6 + 1, none⟩ y).setCell ⟨D, 0, none⟩ (.slice (some ⟨g6, off', none⟩) L.length c')).setCell ⟨D, 2, none⟩ (.int .u64 (IntKind.u64.wrap (gone + 1)))).setCell ⟨w.heap.size + 1, 0, none⟩ x3).setCell ⟨w.heap.size + 1, 1, none⟩ x4).alloc o).cell? ⟨w.heap.size + 1, 1, none⟩ = some x4) := Lib.hid fun off' c' ho hoff o x y x3 x4 => by
        obtain ⟨h1, h2, h3, h4, h5⟩ := HM9.out.evict rfl off' c' (by rw [hTl]; exact ho) hoff o (IntKind.u64.wrap (gone + 1)) x y x3 x4 (w.heap.size + 1) hDN (fun e => hgN.1 e.symm) HN9.out
        rw [hTl] at h1 h2 h3 h4 h5
        refine ⟨⟨some ⟨g6, off', none⟩, c', IntKind.u64.wrap (gone + 1), T, ys, _, _, true, rfl, by rw [hTl]; exact h1, HK8.out.trans h3 (fun i hi e => ?_), by rw [hTl]; exact HOR2.out, .inr ⟨by omega, rfl, by rw [hsplit]; rfl, rfl, by rw [hsplit]; exact h2⟩⟩, h4, h5⟩
        rcases e with e | e | e
        · exact .inl e
        · rcases HOR.out with e2 | ⟨g, e2, hg⟩
          · exact .inr (by rw [e]; exact hg6.symm.trans e2)
          · rw [hg6] at e2; injection e2 with e2; omega
        · omega
      have HT : Hid (OR w8 (.slice (some ⟨g6, off6 + 2, none⟩) L.length (c6 - 1)) L.length ys) := Lib.hid (by have := HM9.out.rows; rw [← hTl]; exact OR.tail this)
      have HT1 : Hid (c6 = 1 → ys = [] ∧ OR w8 (.slice (some ⟨g6, off6, none⟩) L.length 0) L.length ys) := Lib.hid fun e => by
        subst e
        have := OR.tail1 HM9.out.rows
        rw [hTl] at this
        exact ⟨this.1, this.2.2⟩
      obtain ⟨⟨d0, d1, d2⟩, df⟩ := HM9.out.cells
      have hlt8 : D < w8.heap.size := HM9.out.lt
      have e0 : w8.cell? ⟨g6, off6, none⟩ = some (.slice (some ⟨b0, 0, none⟩) 1 c0) := (HM9.out.rows.cell (j := 0) rfl).1
      have e1 : w8.cell? ⟨g6, off6 + 1, none⟩ = some (.bool h0.2) := (HM9.out.rows.cell (j := 1) rfl).1
      have ef : ∀ k, w8.frozen? ⟨g6, k, none⟩ = false := (HM9.out.rows.cell (j := 0) rfl).2
      have hlt6 : g6 < w8.heap.size := (HM9.out.rows.lt g6 rfl).1
      have hgD : g6 ≠ D := HM9.out.ne g6 rfl
      have n0 : w8.cell? ⟨w.heap.size + 1, 0, none⟩ = some (.slice none 0 0) := cell_of_row _ _ 0 _ _ _ HN9.out
      have n1 : w8.cell? ⟨w.heap.size + 1, 1, none⟩ = some (.bool false) := cell_of_row _ _ 1 _ _ _ HN9.out
      have nf : ∀ k, w8.frozen? ⟨w.heap.size + 1, k, none⟩ = false := fun k => by have := HN9.out; simp [World.frozen?, this]
      obtain ⟨hgN1, hgN2⟩ := hgN
      generalize h0.2 = q0 at *
      rw [hTl] at d0
      have hi0 : (0 : Int) < (L.length : Int) + 1 := by omega
      have hi1 : (1 : Int) ≤ (L.length : Int) + 1 := by omega
      have hi2 : 1 ≤ L.length + 1 := by omega
      clear HM HPB HM8 HK8 HN9 HOR HOR2 hlw hr0 HM9 hsplit hxs hTl
      generalize w.heap.size = N at *
      by_cases hc1 : c6 = 1
      · obtain ⟨hys, hT1⟩ := HT1.out hc1
        have HYS := Lib.hid hys
        have HT2 := Lib.hid hT1
        have hL0 : L.length = 0 := by omega
        subst hc1
        obtain rfl : L = [] := List.eq_nil_of_length_eq_zero hL0
        clear HT HT1 hys hT1 hL0
        go_wp2_with fail
        obtain ⟨hz, z0, z1⟩ := HFIN.out _ _ HT2.out (.inl HYS.out) (.cells #[.slice (some ⟨b0, 0, none⟩) 1 c0, .bool q0] 43) (.slice none 0 0) (.bool false) (.slice (some ⟨b0, 0, none⟩) 1 c0) (.bool q0)
        refine bodyPost_ret (v := .tuple #[.agg #[.slice (some ⟨b0, 0, none⟩) 1 c0, .bool q0], .bool true]) ?_ rfl hz
        exact res_row Try.results16 _ _ (N + 1) _ _ true rfl rfl z0 z1
      · go_wp2_with fail
        obtain ⟨hz, z0, z1⟩ := HFIN.out _ _ HT.out (.inr (Nat.le_refl _)) (.cells #[.slice (some ⟨b0, 0, none⟩) 1 c0, .bool q0] 43) (.slice none 0 0) (.bool false) (.slice (some ⟨b0, 0, none⟩) 1 c0) (.bool q0)
        refine bodyPost_ret (v := .tuple #[.agg #[.slice (some ⟨b0, 0, none⟩) 1 c0, .bool q0], .bool true]) ?_ rfl hz
        exact res_row Try.results16 _ _ (N + 1) _ _ true rfl rfl z0 z1
end Go.Proofs.Ytehfejgalemhaaa
