/- The walks of the reference's Same and Clusters. -/
import Derived.Test.YtacmldggdacdpaaDoorWh
namespace Go.Proofs.YtacmldggdacdpaaDoor
open Go.RowKit Go.Shelf

def sameB (xs ys : List Int) : Bool := decide (xs = ys)
theorem same_none {xs ys : List Int} (h : xs.length ≠ ys.length) : sameB xs ys = false := decide_eq_false fun e => h (by rw [e])
theorem same_some {xs ys : List Int} (k : Nat) (h : xs[k]?.getD 0 ≠ ys[k]?.getD 0) : sameB xs ys = false := decide_eq_false fun e => h (by rw [e])
theorem same_all {xs ys : List Int} (k : Nat) (h : xs.take k = ys.take k) (h1 : xs.length ≤ k) (h2 : ys.length ≤ k) : sameB xs ys = true :=
  decide_eq_true (by rw [← List.take_of_length_le h1, h, List.take_of_length_le h2])
theorem take_same {xs ys : List Int} (k : Nat) (h : xs.take k = ys.take k) (h1 : k < xs.length) (h2 : k < ys.length) (e : xs[k]?.getD 0 = ys[k]?.getD 0) : xs.take (k + 1) = ys.take (k + 1) := by
  rw [take_snocD xs k h1, take_snocD ys k h2, h, e]

set_option maxHeartbeats 400000 in
theorem same_any (A A' : Option Addr) (xs ys : List Int) (n n' c c' : Nat) (hn : n = xs.length) (hn' : n' = ys.length) (h63 : n ≤ 9223372036854775807) (w : World) (hR : RS w w.heap.size A xs) (hR' : RS w w.heap.size A' ys) :
    Calls Tryd.prog 16 #[.slice A n c, .slice A' n' c'] w fun e w' => e = .returned (.bool (sameB xs ys)) ∧ Below w.heap.size w w' := by
  by_cases hnn : n = n'
  · have HN := Lib.hid hn
    have HN' := Lib.hid (hnn.trans hn')
    have HR := Lib.hid hR
    have HR' := Lib.hid hR'
    subst hnn
    clear hn hn' hR hR'
    go_enter Tryd.func16, Tryd.ntmps16
    go_wp2
    go_loopw [5] (fun i wr => ∃ k : Nat, k ≤ n ∧ i = .int .i64 k ∧ Hid (xs.take k = ys.take k) ∧ Hid (Below w.heap.size w wr)) (fun i _ => n - (intOf i).toNat)
    case atStart => exact ⟨0, Nat.zero_le _, rfl, Lib.hid rfl, Lib.hid (Below.refl _ _)⟩
    case round =>
      obtain ⟨k, hk, rfl, HK, hB⟩ := hrel
      by_cases hlt : k < n
      · obtain ⟨b, off, e, hblt, hc⟩ := HR.out (fun e => by have := HN.out; rw [e] at this; simp at this; omega)
        obtain ⟨b', off', e', hblt', hc'⟩ := HR'.out (fun e => by have := HN'.out; rw [e] at this; simp at this; omega)
        subst e; subst e'
        have hck : wr.cell? ⟨b, off + k, none⟩ = some (.int .i32 (xs[k]?.getD 0)) := (hB.out.cell (p := ⟨b, off + k, none⟩) hblt).trans (hc k (HN.out ▸ hlt))
        have hck' : wr.cell? ⟨b', off' + k, none⟩ = some (.int .i32 (ys[k]?.getD 0)) := (hB.out.cell (p := ⟨b', off' + k, none⟩) hblt').trans (hc' k (HN'.out ▸ hlt))
        have hli : (k : Int) < n := by omega
        have HNE : Hid (xs[k]?.getD 0 ≠ ys[k]?.getD 0 → sameB xs ys = false) := Lib.hid (same_some k)
        have HEQ : Hid (xs[k]?.getD 0 = ys[k]?.getD 0 → xs.take (k + 1) = ys.take (k + 1)) := Lib.hid (take_same k HK.out (HN.out ▸ hlt) (HN'.out ▸ hlt))
        clear hc hc' HR HR' HN HN' hblt hblt' HK
        generalize xs[k]?.getD 0 = x at *
        generalize ys[k]?.getD 0 = y at *
        go_wp2
        go_still_tail 8, (by kernel_rfl)
        change wpList _ _ _ _ _ wr.drew
        have hBd : Hid (Below w.heap.size w wr.drew) := Lib.hid hB.out.drew
        clear hck hck' hB
        generalize wr.drew = w2 at *
        by_cases hxy : x = y
        · have HZ := Lib.hid (HEQ.out hxy)
          clear HEQ HNE
          have hxb : (x == y) = true := by simpa using hxy
          have hxc : (x != y) = false := by simpa using hxy
          clear hxy
          go_wp2
          go_roundw
          case rel => exact ⟨k + 1, hlt, by go_num, HZ, hBd⟩
          case measure => simp [intOf]; omega
        · have HZ := Lib.hid (HNE.out hxy)
          clear HEQ HNE
          have hxb : (x == y) = false := by simpa using hxy
          have hxc : (x != y) = true := by simpa using hxy
          clear hxy
          go_wp2
          go_ret
          exact ⟨by rw [HZ.out]; rfl, hBd.out⟩
      · have : k = n := by omega
        subst this
        have HZ := Lib.hid (same_all k HK.out (by rw [← HN.out]; exact Nat.le_refl _) (by rw [← HN'.out]; exact Nat.le_refl _))
        clear HK
        go_wp2
        go_ret
        exact ⟨by rw [HZ.out]; rfl, hB.out⟩
  · have HZ := Lib.hid (same_none (xs := xs) (ys := ys) (by rw [← hn, ← hn']; exact hnn))
    have hnb : ((n : Int) == n') = false := by simp; omega
    have hnc : ((n : Int) != n') = true := by simp; omega
    clear hn hn' hR hR' hnn
    go_enter Tryd.func16, Tryd.ntmps16
    go_wp2
    go_ret
    exact ⟨by rw [HZ.out]; rfl, Below.refl _ _⟩

/-- Where the clusters of the first k scalars begin. -/
def stK (xs : List Int) (k : Nat) : List Nat := if k = 0 then [] else (cl xs k).1.map (·.1) ++ [(cl xs k).2]
def stL (xs : List Int) : List Nat := stK xs xs.length ++ [xs.length]
def encI (k : Nat) : Value := .int .i64 k
theorem stK_one (xs : List Int) : stK xs 1 = stK xs 0 ++ [0] := by simp [stK, cl_one]
theorem stK_yes (xs : List Int) (k : Nat) (hk : 0 < k) (h : begB (xs[k - 1]?.getD 0) (xs[k]?.getD 0) = true) : stK xs (k + 1) = stK xs k ++ [k] := by
  simp only [stK, cl_yes xs k hk h, if_neg (Nat.succ_ne_zero k), if_neg (Nat.pos_iff_ne_zero.1 hk), List.map_append]
  rfl
theorem stK_no (xs : List Int) (k : Nat) (hk : 0 < k) (h : begB (xs[k - 1]?.getD 0) (xs[k]?.getD 0) = false) : stK xs (k + 1) = stK xs k := by
  simp only [stK, cl_no xs k h, if_neg (Nat.succ_ne_zero k), if_neg (Nat.pos_iff_ne_zero.1 hk)]
theorem stK_len (xs : List Int) (k : Nat) : (stK xs k).length ≤ k := by
  unfold stK
  split
  · simp
  · have := cl_bd xs k
    simp
    omega
theorem encI_snoc (l : List Nat) (k : Nat) : (l ++ [k]).map encI = l.map encI ++ [.int .i64 k] := by simp [encI]
theorem Tryd.infoInt : (Tryd.prog.info? 3).map (fun i => (i.zero, i.size, i.bytes)) = some (some (.int .i64 0), 1, 8) := by kernel_rfl
theorem own_drewN {w : World} {base : Nat} {e : TypeId} {size : Nat} {v : Value} {n : Nat} {xs : List Value} (h : w.ownsRow base e size v n xs) (k : Nat) : (w.drewN k).ownsRow base e size v n xs := h
theorem below_drewN {B : Nat} {a w : World} (h : Below B a w) (n : Nat) : Below B a (w.drewN n) := ⟨h.os, h.tape, h.output, h.size, h.block⟩
theorem below_app {w w2 w1 : World} {v : Value} {o : Obj} {e : TypeId} {size n : Nat} {xs : List Value} (hb : Below w.heap.size w w2) (ho : w2.ownsRow w.heap.size e size v n xs) (hg : (w2.alloc o).grownBy w1 v.ownBlock) : Below w.heap.size w w1 :=
  (hb.alloc hb.size o).grown hg (by have := hb.size; simp; omega) (fun k e => ((ho.alloc o).lt k e).1)
def RcPost (xs : List Int) (w : World) (e : Ending) (w' : World) : Prop :=
  ∃ v, e = .returned v ∧ w'.ownsRow w.heap.size 3 1 v (stL xs).length ((stL xs).map encI) ∧ Below w.heap.size w w'

set_option maxHeartbeats 400000 in
theorem refClusters_any (A : Option Addr) (xs : List Int) (n c : Nat) (hn : n = xs.length) (hlen : n ≤ 100000) (w : World) (hR : RS w w.heap.size A xs) :
    Calls Tryd.prog 35 #[.slice A n c] w (RcPost xs w) := by
  obtain ⟨i0, hi, hz0, hz1, hz2⟩ := info_parts Tryd.infoInt
  have HN := Lib.hid hn
  have HR := Lib.hid hR
  clear hn hR
  go_enter Tryd.func35, Tryd.ntmps35
  go_wp2
  go_loopw [3, 4] (fun v i wr => ∃ k : Nat, k ≤ n ∧ i = .int .i64 k ∧ wr.ownsRow w.heap.size 3 1 v (stK xs k).length ((stK xs k).map encI) ∧ Hid (Below w.heap.size w wr)) (fun _ i _ => n - (intOf i).toNat)
  case atStart => exact ⟨0, Nat.zero_le _, rfl, World.ownsRow_nil _ _ _ _, Lib.hid (Below.refl _ _)⟩
  case round =>
    obtain ⟨k, hk, rfl, hown, hB⟩ := hrel
    have hsl := stK_len xs k
    have hm1 : (stK xs k).length + 1 ≤ maxLen := by unfold maxLen; omega
    have hm2 : ((stK xs k).length + 1) * 8 ≤ 140737488355328 := by omega
    by_cases hlt : k < n
    · by_cases hk0 : k = 0
      · subst hk0
        have HS := Lib.hid (stK_one xs)
        have hle : 0 < n := hlt
        have HO := Lib.hid hown
        clear hown
        rw [show ((0 : Nat) : Int) = 0 from rfl]
        go_wp2
        have HBS : Hid (∀ o : Obj, w.heap.size ≤ (wr.alloc o).heap.size) := Lib.hid fun o => by have := hB.out.size; simp; omega
        go_quiet (fail)
        go_wp2_with (at_builtin; go_must (refine wpList_append_own _ rfl _ _ 49 rfl w.heap.size 3 i0 (.int .i64 0) 1 8 Tryd.underlying49 hi hz0 hz1 hz2 rfl (by decide) _ _ _ rfl ((own_drewN HO.out _).alloc _) ⟨wr.heap.size, 0, none⟩ 1 1 [.int .i64 0] rfl rfl (cell_one_new _ _ _) (by simp [Value.oneCell']) hm1 hm2 (HBS.out _) ?_; intro v' w9 hown' hgrow _; have hB9 : Hid (Below w.heap.size w w9) := Lib.hid (below_app (below_drewN hB.out _) (own_drewN HO.out _) hgrow); clear hgrow))
        go_roundw
        case rel => exact ⟨1, by omega, by go_num, by rw [HS.out, List.length_append, encI_snoc]; exact hown', hB9⟩
        case measure => simp [intOf]; omega
      · have hkz : ((k : Int) == 0) = false := by simp; omega
        obtain ⟨b, off, e, hblt, hc⟩ := HR.out (fun e => by have := HN.out; rw [e] at this; simp at this; omega)
        subst e
        have hc0 : wr.cell? ⟨b, off + (k - 1), none⟩ = some (.int .i32 (xs[k - 1]?.getD 0)) := (hB.out.cell (p := ⟨b, off + (k - 1), none⟩) hblt).trans (hc _ (by have := HN.out; omega))
        have hc1 : wr.cell? ⟨b, off + k, none⟩ = some (.int .i32 (xs[k]?.getD 0)) := (hB.out.cell (p := ⟨b, off + k, none⟩) hblt).trans (hc _ (by have := HN.out; omega))
        have HO := Lib.hid hown
        clear hown hc
        go_wp2
        have s1 : IntKind.i64.wrap ((k : Int) - 1) = (k : Int) - 1 := IntWalk.i64_in _ (by omega)
        have s2 : ((k : Int) - 1).toNat = k - 1 := by omega
        have s3 : (k : Int) - 1 < n := by omega
        have s4 : 1 ≤ (k : Int) := by omega
        have s5 : (k : Int) < n := by omega
        go_still_tail 12, (by kernel_rfl)
        change wpList _ _ _ _ _ wr.drew
        clear s1 s2 s3 s4 s5
        have hBd : Hid (Below w.heap.size w wr.drew) := Lib.hid hB.out.drew
        have hj := joins_any (xs[k - 1]?.getD 0) (xs[k]?.getD 0) wr.drew
        have HO2 : Hid (wr.drew.ownsRow w.heap.size 3 1 u3 (stK xs k).length ((stK xs k).map encI)) := Lib.hid HO.out
        have HY : Hid (begB (xs[k - 1]?.getD 0) (xs[k]?.getD 0) = true → stK xs (k + 1) = stK xs k ++ [k]) := Lib.hid (stK_yes xs k (by omega))
        have HNo : Hid (begB (xs[k - 1]?.getD 0) (xs[k]?.getD 0) = false → stK xs (k + 1) = stK xs k) := Lib.hid (stK_no xs k (by omega))
        clear hc0 hc1 hB HO HR
        generalize begB (xs[k - 1]?.getD 0) (xs[k]?.getD 0) = bb at *
        generalize wr.drew = w2 at *
        cases bb with
        | true =>
          have HS := Lib.hid (HY.out rfl)
          clear HY HNo
          go_wp2_with (first | (go_at_call 50; refine hj.mono ?_; clear hj; rintro e w3 ⟨rfl, hb3⟩; have HO3 := Lib.hid (ownsRow_below' HO2.out hb3); have HB3 := Lib.hid (hBd.out.trans (hb3.mono hBd.out.size)); have HBS3 : Hid (∀ o : Obj, w.heap.size ≤ (w3.alloc o).heap.size) := Lib.hid fun o => by (have := HB3.out.size; simp; omega)) | (at_builtin; go_must (refine wpList_append_own _ rfl _ _ 49 rfl w.heap.size 3 i0 (.int .i64 0) 1 8 Tryd.underlying49 hi hz0 hz1 hz2 rfl (by decide) _ _ _ rfl (HO3.out.alloc _) ⟨w3.heap.size, 0, none⟩ 1 1 [.int .i64 k] rfl rfl (cell_one_new _ _ _) (by simp [Value.oneCell']) hm1 hm2 (HBS3.out _) ?_; intro v' w9 hown' hgrow _; have hB9 : Hid (Below w.heap.size w w9) := Lib.hid (below_app (HB3.out) (HO3.out) hgrow); clear hgrow)))
          go_roundw
          case rel => exact ⟨k + 1, by omega, by go_num, by rw [HS.out, List.length_append, encI_snoc]; exact hown', hB9⟩
          case measure => simp [intOf]; omega
        | false =>
          have HS := Lib.hid (HNo.out rfl)
          clear HY HNo
          go_wp2_with (go_at_call 50; refine hj.mono ?_; clear hj; rintro e w3 ⟨rfl, hb3⟩; have HO3 := Lib.hid (ownsRow_below' HO2.out hb3); have HB3 := Lib.hid (hBd.out.trans (hb3.mono hBd.out.size)))
          go_roundw
          case rel => exact ⟨k + 1, by omega, by go_num, by rw [HS.out]; exact HO3.out, HB3⟩
          case measure => simp [intOf]; omega
    · obtain rfl : k = n := by omega
      have HBS : Hid (∀ o : Obj, w.heap.size ≤ (wr.alloc o).heap.size) := Lib.hid fun o => by have := hB.out.size; simp; omega
      have HO := Lib.hid hown
      have HS : Hid (stL xs = stK xs k ++ [k]) := Lib.hid (by unfold stL; rw [← HN.out])
      clear hown
      go_wp2_with (at_builtin; go_must (refine wpList_append_own _ rfl _ _ 49 rfl w.heap.size 3 i0 (.int .i64 0) 1 8 Tryd.underlying49 hi hz0 hz1 hz2 rfl (by decide) _ _ _ rfl (HO.out.alloc _) ⟨wr.heap.size, 0, none⟩ 1 1 [.int .i64 k] rfl rfl (cell_one_new _ _ _) (by simp [Value.oneCell']) hm1 hm2 (HBS.out _) ?_; intro v' w9 hown' hgrow _; have hB9 : Hid (Below w.heap.size w w9) := Lib.hid (below_app (hB.out) (HO.out) hgrow); clear hgrow))
      go_ret
      exact ⟨v', rfl, by rw [HS.out, List.length_append, encI_snoc]; exact hown', hB9.out⟩

end Go.Proofs.YtacmldggdacdpaaDoor
