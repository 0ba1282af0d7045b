/- Insert's closure. -/
import Derived.Test.YtoiekhjmfoodiaaDoorHd
import Derived.StillTailTactics
import Derived.Deep.DeepCutAuto
namespace Go.Proofs.YtoiekhjmfoodiaaDoor
open Go.RowKit

theorem wpList_copy_mo {w : World} {ops : Array Oper} {rest : List Oper} {o : Oper} {a : Act} {Q : Exit → Act → World → Prop} (hgd : o.guard = none) (d s : Operand)
    (ho : o.op = .call { callee := .builtin .copy, args := #[d, s], argTypes := #[22, 22] })
    (g : Nat) (M : List CC) (hm : MC w g M) (oa ob od os dLen dCap sLen sCap k : Nat) (hd : a.eval d = .slice (some ⟨g, oa, none⟩) dLen dCap) (hs : a.eval s = .slice (some ⟨g, ob, none⟩) sLen sCap)
    (hoa : oa = od * 8) (hob : ob = os * 8) (hk : k = Nat.min sLen dLen) (h1 : od + k ≤ M.length) (h2 : os + k ≤ M.length)
    (h : ∀ w', MC w' g (movL M od os k) → KG g w w' → wpList Tryd.prog ops Q rest (a.put o.dst (goInt k)) w') : wpList Tryd.prog ops Q (o :: rest) a w := by
  subst hoa; subst hob
  exact wpList_copy_mc hgd d s ho g M hm od os dLen dCap sLen sCap k hd hs hk h1 h2 h
theorem MC.ne {w : World} {g p : Nat} {M : List CC} {cs : Array Value} {t : TypeId} {fr : Nat × Nat} (h : MC w g M) (hp : w.heap[p]? = some (.cells cs t fr)) (ht : t ≠ 44) : p ≠ g := fun e => by
  obtain ⟨cur, hc⟩ := h.row
  rw [e, hc] at hp
  injection hp with hp
  injection hp with _ h2 _
  exact ht h2.symm
theorem movL_none (M : List CC) (d s : Nat) : movL M d s 0 = M := by
  unfold movL
  simp
theorem KG.past' {g : Nat} {w w1 : World} (h : KG g w w1) : KG g w w1.drew := ⟨h.os, h.tape, h.output, h.size, h.block⟩
set_option maxRecDepth 100000 in
set_option maxHeartbeats 4000000 in
theorem insFn_lt (g n c x k P1 P2 P3 : Nat) (N : Int) (M : List CC) (bk bn : Int) (hn : n = M.length) (hl : n ≤ 1000) (hcap : n ≤ c) (hx : x < n) (hkn : k ≤ n - x) (hk : max (min N ((n - x : Nat) : Int)) 0 = (k : Int)) (hc : k < c - x) (w : World) (h : MC w g M) (h1 : w.heap[P1]? = some (.cells #[.int .i64 x] 3 (0, 0))) (h2 : w.heap[P2]? = some (.cells #[.int .i64 N] 3 (0, 0))) (h3 : w.heap[P3]? = some (.cells #[.int .i64 bk, .int .i64 bn] 32 (0, 0))) :
    Calls Tryd.prog 64 #[.slice (some ⟨g, 0, none⟩) n c, .pointer (some ⟨P1, 0, none⟩), .pointer (some ⟨P2, 0, none⟩), .pointer (some ⟨P3, 0, none⟩)] w fun e w' => e = .returned (.tuple #[]) ∧ MC w' g (blankK (movL M (x + k) x (n - x - k)) x (blankC bk bn) k) ∧ KG g w w' := by
  have HML : Hid ((movL M (x + k) x (n - x - k)).length = n) := Lib.hid (by rw [movL_len M _ _ _ (by omega) (by omega), hn])
  have HBL : Hid (∀ W c', MC W g (movL M (x + k) x (n - x - k)) → Calls Tryd.prog 35 #[.slice (some ⟨g, x * 8, none⟩) k c', .agg #[.int .i64 bk, .int .i64 bn]] W fun e w' => e = .returned (.tuple #[]) ∧ MC w' g (blankK (movL M (x + k) x (n - x - k)) x (blankC bk bn) k) ∧ KG g W w') := Lib.hid fun W c' hW => blank_any g x k c' _ bk bn (by rw [HML.out]; omega) (by rw [HML.out]; omega) W hW
  have HCP : Hid (x + k + (n - x - k) ≤ M.length ∧ x + (n - x - k) ≤ M.length) := Lib.hid (by omega)
  have HMC := Lib.hid h
  have HP3 : Hid (∀ W, KG g w W → W.cell? ⟨P3, 0, none⟩ = some (.int .i64 bk) ∧ W.cell? ⟨P3, 1, none⟩ = some (.int .i64 bn)) := Lib.hid fun W hW => by
    have hb := (hW.block P3 (Array.getElem?_eq_some_iff.1 h3).1 (h.ne h3 (by decide))).trans h3
    exact ⟨cell_of_row _ _ 0 _ _ _ hb, cell_of_row _ _ 1 _ _ _ hb⟩
  have c1 := cell_of_row _ _ 0 _ _ _ h1
  have c2 := cell_of_row _ _ 0 _ _ _ h2
  have i1 : (x : Int) ≤ n := by omega
  have i2 : (x : Int) < c := by omega
  have i3 : x < c := by omega
  have i4 : x ≤ n := by omega
  have i5 : (k : Int) ≤ (n - x : Nat) := by omega
  have i6 : (k : Int) ≤ (c - x : Nat) := by omega
  have i7 : k ≤ c - x := by omega
  have i8 : (k : Int) < (c - x : Nat) := by omega
  have i9 : k < c - x := hc
  have HMIN : Hid (n - x - k = Nat.min (n - x) (n - x - k)) := Lib.hid (by show _ = min _ _; omega)
  generalize hB : blankK (movL M (x + k) x (n - x - k)) x (blankC bk bn) k = M2 at *
  clear hB h h1 h2 h3 hn hcap hx hc hl
  go_enter Tryd.func64, Tryd.ntmps64
  go_upto_region 1 with fail
  go_cut [6] (fun s6 wx => s6 = .int .i64 k ∧ w = wx)
  case first =>
    clear HBL HCP HMC HP3 HML HMIN i1 i2 i3 i4 i5 i6 i7 i8 i9
    go_wp2
    all_goals
      go_meet
      case rel => exact ⟨(by congr 1; omega), rfl⟩
  case rest =>
  obtain ⟨rfl, rfl⟩ := hcut
  clear hk c1 c2 hkn
  go_wp2_with ((with_reducible refine wpList_copy_mo rfl (.tmp 17) (.tmp 18) rfl g M HMC.out (x * 8 + k * 8) (x * 8) (x + k) x (n - x - k) (c - x - k) (n - x) (c - x) (n - x - k) rfl rfl (Nat.add_mul x k 8).symm rfl HMIN.out HCP.out.1 HCP.out.2 ?_); intro w1 hm1 hk1; have HM1 := Lib.hid hm1; have HK1 := Lib.hid hk1; obtain ⟨d3, d4⟩ := HP3.out _ hk1; clear hm1 hk1)
  go_still_tail 4, (by kernel_rfl)
  change wpList _ _ _ _ _ w1.drew
  have HM2 : Hid (MC w1.drew g (movL M (x + k) x (n - x - k))) := Lib.hid (HM1.out.past (Below.refl w1.heap.size w1).drew)
  have HK2 : Hid (KG g w w1.drew) := Lib.hid (HK1.out.past' )
  clear d3 d4
  generalize w1.drew = wd at *
  go_wp2_with (go_at_call 35; (with_reducible refine (HBL.out _ _ HM2.out).mono ?_); rintro e w2 ⟨rfl, hm, hk⟩; have HM := Lib.hid hm; have HK := Lib.hid (HK2.out.trans hk); clear hm hk)
  go_end0
  exact ⟨rfl, HM.out, HK.out⟩
set_option maxRecDepth 100000 in
set_option maxHeartbeats 4000000 in
theorem insFn_eq (g n c x k P1 P2 P3 : Nat) (N : Int) (M : List CC) (bk bn : Int) (hn : n = M.length) (hl : n ≤ 1000) (hcap : n ≤ c) (hx : x < n) (hkn : k ≤ n - x) (hk : max (min N ((n - x : Nat) : Int)) 0 = (k : Int)) (hc : k = c - x) (w : World) (h : MC w g M) (h1 : w.heap[P1]? = some (.cells #[.int .i64 x] 3 (0, 0))) (h2 : w.heap[P2]? = some (.cells #[.int .i64 N] 3 (0, 0))) (h3 : w.heap[P3]? = some (.cells #[.int .i64 bk, .int .i64 bn] 32 (0, 0))) :
    Calls Tryd.prog 64 #[.slice (some ⟨g, 0, none⟩) n c, .pointer (some ⟨P1, 0, none⟩), .pointer (some ⟨P2, 0, none⟩), .pointer (some ⟨P3, 0, none⟩)] w fun e w' => e = .returned (.tuple #[]) ∧ MC w' g (blankK (movL M (x + k) x (n - x - k)) x (blankC bk bn) k) ∧ KG g w w' := by
  have HML : Hid (M.length = n) := Lib.hid hn.symm
  have HZ : Hid (n - x - k = 0) := Lib.hid (by omega)
  have HMV : Hid (movL M (x + k) x (n - x - k) = M) := Lib.hid (by rw [HZ.out, movL_none])
  rw [HMV.out]
  have HBL : Hid (∀ W c', MC W g M → Calls Tryd.prog 35 #[.slice (some ⟨g, x * 8, none⟩) k c', .agg #[.int .i64 bk, .int .i64 bn]] W fun e w' => e = .returned (.tuple #[]) ∧ MC w' g (blankK M x (blankC bk bn) k) ∧ KG g W w') := Lib.hid fun W c' hW => blank_any g x k c' _ bk bn (by rw [HML.out]; omega) (by rw [HML.out]; omega) W hW
  have HCP : Hid (x + (n - x - k) ≤ M.length ∧ x + (n - x - k) ≤ M.length) := Lib.hid (by omega)
  have HMC := Lib.hid h
  have HP3 : Hid (∀ W, KG g w W → W.cell? ⟨P3, 0, none⟩ = some (.int .i64 bk) ∧ W.cell? ⟨P3, 1, none⟩ = some (.int .i64 bn)) := Lib.hid fun W hW => by
    have hb := (hW.block P3 (Array.getElem?_eq_some_iff.1 h3).1 (h.ne h3 (by decide))).trans h3
    exact ⟨cell_of_row _ _ 0 _ _ _ hb, cell_of_row _ _ 1 _ _ _ hb⟩
  have c1 := cell_of_row _ _ 0 _ _ _ h1
  have c2 := cell_of_row _ _ 0 _ _ _ h2
  have i1 : (x : Int) ≤ n := by omega
  have i2 : (x : Int) < c := by omega
  have i3 : x < c := by omega
  have i4 : x ≤ n := by omega
  have i5 : (k : Int) ≤ (n - x : Nat) := by omega
  have i6 : (k : Int) ≤ (c - x : Nat) := by omega
  have i7 : k ≤ c - x := by omega
  have i8 : ¬ ((k : Int) < (c - x : Nat)) := by omega
  have i9 : ¬ (k < c - x) := by omega
  have HMIN : Hid (n - x - k = Nat.min (n - x) (n - x - k)) := Lib.hid (by show _ = min _ _; omega)
  generalize hB : blankK M x (blankC bk bn) k = M2 at *
  clear hB h h1 h2 h3 hn hcap hx hc hl
  go_enter Tryd.func64, Tryd.ntmps64
  go_upto_region 1 with fail
  go_cut [6] (fun s6 wx => s6 = .int .i64 k ∧ w = wx)
  case first =>
    clear HZ HMV HBL HCP HMC HP3 HML HMIN i1 i2 i3 i4 i5 i6 i7 i8 i9
    go_wp2
    all_goals
      go_meet
      case rel => exact ⟨(by congr 1; omega), rfl⟩
  case rest =>
  obtain ⟨rfl, rfl⟩ := hcut
  clear hk c1 c2 hkn
  go_wp2_with ((with_reducible refine wpList_copy_mo rfl (.tmp 17) (.tmp 18) rfl g M HMC.out (x * 8) (x * 8) x x (n - x - k) (c - x - k) (n - x) (c - x) (n - x - k) rfl rfl rfl rfl HMIN.out HCP.out.1 HCP.out.2 ?_); intro w1 hm1 hk1; rw [HZ.out, movL_none] at hm1; have HM1 := Lib.hid hm1; have HK1 := Lib.hid hk1; obtain ⟨d3, d4⟩ := HP3.out _ hk1; clear hm1 hk1)
  go_still_tail 4, (by kernel_rfl)
  change wpList _ _ _ _ _ w1.drew
  have HM2 : Hid (MC w1.drew g M) := Lib.hid (HM1.out.past (Below.refl w1.heap.size w1).drew)
  have HK2 : Hid (KG g w w1.drew) := Lib.hid (HK1.out.past' )
  clear d3 d4
  generalize w1.drew = wd at *
  go_wp2_with (go_at_call 35; (with_reducible refine (HBL.out _ _ HM2.out).mono ?_); rintro e w2 ⟨rfl, hm, hk⟩; have HM := Lib.hid hm; have HK := Lib.hid (HK2.out.trans hk); clear hm hk)
  go_end0
  exact ⟨rfl, HM.out, HK.out⟩
theorem insFn_any (g n c x k P1 P2 P3 : Nat) (N : Int) (M : List CC) (bk bn : Int) (hn : n = M.length) (hl : n ≤ 1000) (hcap : n ≤ c) (hx : x < n) (hkn : k ≤ n - x) (hk : max (min N ((n - x : Nat) : Int)) 0 = (k : Int)) (w : World) (h : MC w g M) (h1 : w.heap[P1]? = some (.cells #[.int .i64 x] 3 (0, 0))) (h2 : w.heap[P2]? = some (.cells #[.int .i64 N] 3 (0, 0))) (h3 : w.heap[P3]? = some (.cells #[.int .i64 bk, .int .i64 bn] 32 (0, 0))) :
    Calls Tryd.prog 64 #[.slice (some ⟨g, 0, none⟩) n c, .pointer (some ⟨P1, 0, none⟩), .pointer (some ⟨P2, 0, none⟩), .pointer (some ⟨P3, 0, none⟩)] w fun e w' => e = .returned (.tuple #[]) ∧ MC w' g (blankK (movL M (x + k) x (n - x - k)) x (blankC bk bn) k) ∧ KG g w w' := by
  by_cases hc : k < c - x
  · exact insFn_lt g n c x k P1 P2 P3 N M bk bn hn hl hcap hx hkn hk hc w h h1 h2 h3
  · exact insFn_eq g n c x k P1 P2 P3 N M bk bn hn hl hcap hx hkn hk (by omega) w h h1 h2 h3
end Go.Proofs.YtoiekhjmfoodiaaDoor

namespace Go.Proofs.YtoiekhjmfoodiaaDoor
open Go.RowKit

/-- What Insert makes of a row. -/
def insRow (l : List CC) (z N : Int) (b : CC) : List CC :=
  if 0 ≤ z ∧ z < (l.length : Int) then mendL (blankK (movL (mendL l) (z.toNat + (max (min N ((l.length - z.toNat : Nat) : Int)) 0).toNat) z.toNat (l.length - z.toNat - (max (min N ((l.length - z.toNat : Nat) : Int)) 0).toNat)) z.toNat b (max (min N ((l.length - z.toNat : Nat) : Int)) 0).toNat) else mendL l
set_option maxRecDepth 100000 in
set_option maxHeartbeats 4000000 in
theorem insert_any (A : Option Addr) (l : List CC) (n c : Nat) (z N bk bn : Int) (hn : n = l.length) (hl : n ≤ 1000) (w : World) (h : RC w w.heap.size A l) :
    Calls Tryd.prog 37 #[.slice A n c, .int .i64 z, .int .i64 N, .agg #[.int .i64 bk, .int .i64 bn]] w fun e w' => ∃ v, e = .returned v ∧ OC w.heap.size w' v (insRow l z N (blankC bk bn)) ∧ Below w.heap.size w w' := by
  have hb : Below w.heap.size w (((w.alloc (.cells #[.int .i64 z] 3)).alloc (.cells #[.int .i64 N] 3)).alloc (.cells #[.int .i64 bk, .int .i64 bn] 32)) := belA (belA (belA (Below.refl _ _) _) _) _
  have s0 : (w.alloc (.cells #[.int .i64 z] 3)).heap.size = w.heap.size + 1 := by simp
  have s1 : ((w.alloc (.cells #[.int .i64 z] 3)).alloc (.cells #[.int .i64 N] 3)).heap.size = w.heap.size + 2 := by simp
  have hA := belA (belA (Below.refl (w.alloc (.cells #[.int .i64 z] 3)).heap.size _) (.cells #[.int .i64 N] 3)) (.cells #[.int .i64 bk, .int .i64 bn] 32)
  have hA2 := belA (Below.refl ((w.alloc (.cells #[.int .i64 z] 3)).alloc (.cells #[.int .i64 N] 3)).heap.size _) (.cells #[.int .i64 bk, .int .i64 bn] 32)
  have b1 := (hA.block w.heap.size (by omega)).trans (heap_alloc_new w (.cells #[.int .i64 z] 3))
  have n2 := heap_alloc_new (w.alloc (.cells #[.int .i64 z] 3)) (.cells #[.int .i64 N] 3)
  rw [s0] at n2
  have b2 := (hA2.block (w.heap.size + 1) (by omega)).trans n2
  have b3 := heap_alloc_new ((w.alloc (.cells #[.int .i64 z] 3)).alloc (.cells #[.int .i64 N] 3)) (.cells #[.int .i64 bk, .int .i64 bn] 32)
  rw [s1] at b3
  have HAT : Hid (Calls Tryd.prog 48 #[.slice A n c, .int .i64 z, .func (.func 64) #[] #[.pointer (some ⟨w.heap.size, 0, none⟩), .pointer (some ⟨w.heap.size + 1, 0, none⟩), .pointer (some ⟨w.heap.size + 2, 0, none⟩)]] (((w.alloc (.cells #[.int .i64 z] 3)).alloc (.cells #[.int .i64 N] 3)).alloc (.cells #[.int .i64 bk, .int .i64 bn] 32)) fun e w' => ∃ v, e = .returned v ∧ OC w.heap.size w' v (insRow l z N (blankC bk bn)) ∧ Below w.heap.size w w') := Lib.hid (by
    unfold insRow
    by_cases hz : 0 ≤ z ∧ z < (l.length : Int)
    · rw [if_pos hz]
      obtain ⟨x, hx⟩ : ∃ x : Nat, z = x := ⟨z.toNat, by omega⟩
      subst hx
      rw [Int.toNat_natCast]
      have hxl : x < l.length := by omega
      obtain ⟨k, hk⟩ : ∃ k : Nat, max (min N ((l.length - x : Nat) : Int)) 0 = (k : Int) := ⟨(max (min N ((l.length - x : Nat) : Int)) 0).toNat, by omega⟩
      rw [hk, Int.toNat_natCast]
      have hkn : k ≤ l.length - x := by omega
      refine (atInsert_in A l _ n c x _ _ _ hn hl (by omega) (by rw [blankK_len, movL_len _ _ _ _ (by rw [mendL_len]; omega) (by rw [mendL_len]; omega), mendL_len, hn]) _ (h.past hb) fun W g c' hW hc' hm => ?_).mono fun e w' ⟨v, he, ho, hb'⟩ => ⟨v, he, ho.lower hb.size, bel0 hb hb'⟩
      have q1 := (hW.block _ (Array.getElem?_eq_some_iff.1 b1).1).trans b1
      have q2 := (hW.block _ (Array.getElem?_eq_some_iff.1 b2).1).trans b2
      have q3 := (hW.block _ (Array.getElem?_eq_some_iff.1 b3).1).trans b3
      subst hn
      exact insFn_any g l.length c' x k _ _ _ N (mendL l) bk bn (by rw [mendL_len]) hl hc' hxl hkn hk W hm q1 q2 q3
    · rw [if_neg hz]
      exact (atInsert_out A l n c z _ hn hl (by omega) _ (h.past hb)).mono fun e w' ⟨v, he, ho, hb'⟩ => ⟨v, he, ho.lower hb.size, bel0 hb hb'⟩)
  clear h hn hl hb s0 s1 hA hA2 b1 n2 b2 b3
  generalize insRow l z N (blankC bk bn) = L at *
  go_enter Tryd.func37, Tryd.ntmps37
  go_wp2_with (go_at_call 48; (with_reducible refine (HAT.out).mono ?_); rintro e w1 ⟨v, rfl, ho, hb⟩; have HO1 := Lib.hid ho; have HB1 := Lib.hid hb; clear ho hb)
  go_ret
  exact ⟨_, rfl, HO1.out, HB1.out⟩
end Go.Proofs.YtoiekhjmfoodiaaDoor
