/- Rows of numbers in memory; a row of one's own read as numbers; the walk of the reference's Ints. -/
import Derived.Test.YtjifekdjkjnefaaKa
import Derived.Laws.AppendOwn
import Derived.Deep.QuietTactic
import Derived.BigQuiet
import Derived.StillTailTactics
namespace Go.Proofs.Ytjifekdjkjnefaa
open Go.RowKit

theorem Try.infoInt : (Try.prog.info? 3).map (fun i => (i.zero, i.size, i.bytes)) = some (some (.int .i64 0), 1, 8) := by kernel_rfl
/-- The slice value '.slice A xs.length c' reads as the numbers xs; it lies below block B. -/
def RI (w : World) (B : Nat) (A : Option Addr) (xs : List Int) : Prop :=
  xs ≠ [] → ∃ b off, A = some ⟨b, off, none⟩ ∧ b < B ∧ ∀ k, k < xs.length → w.cell? ⟨b, off + k, none⟩ = some (.int .i64 (xs[k]?.getD 0))
theorem RI.below {w w' : World} {B : Nat} {A : Option Addr} {xs : List Int} (h : RI w B A xs) (hb : Below B w w') : RI w' B A xs := fun hn => by
  obtain ⟨b, off, e, hlt, hc⟩ := h hn
  exact ⟨b, off, e, hlt, fun k hk => (hb.cell (p := ⟨b, off + k, none⟩) hlt).trans (hc k hk)⟩
theorem RI.more {w : World} {B B' : Nat} {A : Option Addr} {xs : List Int} (h : RI w B A xs) (hB : B ≤ B') : RI w B' A xs := fun hn => by
  obtain ⟨b, off, e, hlt, hc⟩ := h hn
  exact ⟨b, off, e, Nat.lt_of_lt_of_le hlt hB, hc⟩
theorem RI.past {w w' : World} {A : Option Addr} {xs : List Int} (h : RI w w.heap.size A xs) (hb : Below w.heap.size w w') : RI w' w'.heap.size A xs := (h.below hb).more hb.size
theorem take_snocI (xs : List Int) (k : Nat) (h : k < xs.length) : xs.take (k + 1) = xs.take k ++ [xs[k]?.getD 0] := by
  rw [List.take_succ_eq_append_getElem h, List.getElem?_eq_getElem h]; rfl
/-- What has just been laid into a block of one cell, as append asks it. -/
theorem news1 (W : World) (v : Value) (t : TypeId) : ∀ (j : Nat) (u : Value), [v][j]? = some u → (W.alloc (.cells #[v] t)).cell? ((⟨W.heap.size, 0, none⟩ : Addr).add j) = some u := fun j u hj => by
  match j, hj with
  | 0, hj =>
    simp at hj
    subst hj
    exact (cell_of_row _ _ _ _ _ _ (heap_alloc_new W _)).trans rfl
theorem grown_of_below {w w' : World} {row : Option Nat} (h : Below w.heap.size w w') : w.grownBy w' row := ⟨h.os, h.tape, h.output, h.size, fun k hk _ => h.block k hk⟩
theorem own_mono {w : World} {B B' : Nat} {e : TypeId} {z : Nat} {v : Value} {n : Nat} {L : List Value} (h : w.ownsRow B e z v n L) (hb : B' ≤ B) : w.ownsRow B' e z v n L :=
  ⟨h.1, h.2.imp id fun ⟨g, cap, cur, a1, a2, a3⟩ => ⟨g, cap, cur, a1, Nat.le_trans hb a2, a3⟩⟩
theorem own_past {w w' : World} {B : Nat} {e : TypeId} {z : Nat} {v : Value} {n : Nat} {L : List Value} (h : w.ownsRow B e z v n L) (hb : Below w.heap.size w w') : w'.ownsRow B e z v n L :=
  h.kept (grown_of_below (row := none) hb) (by cases h' : v.ownBlock <;> simp)

theorem own_form {w : World} {base : Nat} {e : TypeId} {size : Nat} {v : Value} {k : Nat} {xs : List Value} (h : w.ownsRow base e size v k xs) :
    ∃ A c, v = .slice A k c ∧ (0 < k → ∃ g, A = some ⟨g, 0, none⟩) := by
  rcases h.2 with ⟨rfl, rfl⟩ | ⟨g, cap, cur, rfl, _⟩
  · exact ⟨none, 0, rfl, fun h => by omega⟩
  · exact ⟨_, cap, rfl, fun _ => ⟨g, rfl⟩⟩
/-- A row of the call's own reads as its numbers. -/
theorem RI.of_own {w : World} {base n c : Nat} {A : Option Addr} {xs : List Int} (h : w.ownsRow base 3 1 (.slice A n c) n (xs.map (Value.int .i64))) : RI w w.heap.size A xs := fun hn => by
  have hl : xs.length = n := by have := h.1; simpa using this
  obtain ⟨A', c', e, hA⟩ := own_form h
  injection e with e1 _ _
  subst e1
  obtain ⟨g, rfl⟩ := hA (by rw [← hl]; exact List.length_pos_iff.2 hn)
  refine ⟨g, 0, rfl, (h.lt g rfl).2, fun k hk => ?_⟩
  rw [Nat.zero_add, h.cellAt k (by omega), List.getElem?_map, List.getElem?_eq_getElem hk]
  rfl

def intsB (xs ys : List Int) : Bool := decide (xs = ys)
theorem ints_none {xs ys : List Int} (h : xs.length ≠ ys.length) : intsB xs ys = false := decide_eq_false fun e => h (by rw [e])
theorem ints_some {xs ys : List Int} (k : Nat) (h : xs[k]?.getD 0 ≠ ys[k]?.getD 0) : intsB xs ys = false := decide_eq_false fun e => h (by rw [e])
theorem ints_all {xs ys : List Int} (k : Nat) (h : xs.take k = ys.take k) (h1 : xs.length ≤ k) (h2 : ys.length ≤ k) : intsB xs ys = true :=
  decide_eq_true (by rw [← List.take_of_length_le h1, h, List.take_of_length_le h2])
theorem take_ints {xs ys : List Int} (k : Nat) (h : xs.take k = ys.take k) (h1 : k < xs.length) (h2 : k < ys.length) (e : xs[k]?.getD 0 = ys[k]?.getD 0) : xs.take (k + 1) = ys.take (k + 1) := by
  rw [take_snocI xs k h1, take_snocI ys k h2, h, e]

set_option maxRecDepth 100000 in
set_option maxHeartbeats 400000 in
theorem ints_any (A A' : Option Addr) (xs ys : List Int) (n n' c c' : Nat) (hn : n = xs.length) (hn' : n' = ys.length) (h63 : n ≤ 9223372036854775807) (w : World) (hR : RI w w.heap.size A xs) (hR' : RI w w.heap.size A' ys) :
    Calls Try.prog 22 #[.slice A n c, .slice A' n' c'] w fun e w' => e = .returned (.bool (intsB xs ys)) ∧ Below w.heap.size w w' := by
  by_cases hnn : n = n'
  · have HN := Lib.hid hn
    have HN' := Lib.hid (hnn.trans hn')
    have HR := Lib.hid hR
    have HR' := Lib.hid hR'
    subst hnn
    clear hn hn' hR hR'
    go_enter Try.func22, Try.ntmps22
    go_wp2
    go_loopw [5] (fun i wr => ∃ k : Nat, k ≤ n ∧ i = .int .i64 k ∧ Hid (xs.take k = ys.take k) ∧ Hid (Below w.heap.size w wr)) (fun i _ => n - (intOf i).toNat)
    case atStart => exact ⟨0, Nat.zero_le _, rfl, Lib.hid rfl, Lib.hid (Below.refl _ _)⟩
    case round =>
      obtain ⟨k, hk, rfl, HK, hB⟩ := hrel
      by_cases hlt : k < n
      · obtain ⟨b, off, e, hblt, hc⟩ := HR.out (fun e => by have := HN.out; rw [e] at this; simp at this; omega)
        obtain ⟨b', off', e', hblt', hc'⟩ := HR'.out (fun e => by have := HN'.out; rw [e] at this; simp at this; omega)
        subst e; subst e'
        have hck : wr.cell? ⟨b, off + k, none⟩ = some (.int .i64 (xs[k]?.getD 0)) := (hB.out.cell (p := ⟨b, off + k, none⟩) hblt).trans (hc k (HN.out ▸ hlt))
        have hck' : wr.cell? ⟨b', off' + k, none⟩ = some (.int .i64 (ys[k]?.getD 0)) := (hB.out.cell (p := ⟨b', off' + k, none⟩) hblt').trans (hc' k (HN'.out ▸ hlt))
        have hli : (k : Int) < n := by omega
        have HNE : Hid (xs[k]?.getD 0 ≠ ys[k]?.getD 0 → intsB xs ys = false) := Lib.hid (ints_some k)
        have HEQ : Hid (xs[k]?.getD 0 = ys[k]?.getD 0 → xs.take (k + 1) = ys.take (k + 1)) := Lib.hid (take_ints k HK.out (HN.out ▸ hlt) (HN'.out ▸ hlt))
        clear hc hc' HR HR' HN HN' hblt hblt' HK
        generalize xs[k]?.getD 0 = x at *
        generalize ys[k]?.getD 0 = y at *
        go_wp2
        go_still_tail 8, (by kernel_rfl)
        change wpList _ _ _ _ _ wr.drew
        have hBd : Hid (Below w.heap.size w wr.drew) := Lib.hid hB.out.drew
        clear hck hck' hB
        generalize wr.drew = w2 at *
        by_cases hxy : x = y
        · have HZ := Lib.hid (HEQ.out hxy)
          clear HEQ HNE
          have hxb : (x == y) = true := by simpa using hxy
          have hxc : (x != y) = false := by simpa using hxy
          clear hxy
          go_wp2
          go_roundw
          case rel => exact ⟨k + 1, hlt, by go_num, HZ, hBd⟩
          case measure => simp [intOf]; omega
        · have HZ := Lib.hid (HNE.out hxy)
          clear HEQ HNE
          have hxb : (x == y) = false := by simpa using hxy
          have hxc : (x != y) = true := by simpa using hxy
          clear hxy
          go_wp2
          go_ret
          exact ⟨by rw [HZ.out]; rfl, hBd.out⟩
      · have : k = n := by omega
        subst this
        have HZ := Lib.hid (ints_all k HK.out (by rw [← HN.out]; exact Nat.le_refl _) (by rw [← HN'.out]; exact Nat.le_refl _))
        clear HK
        go_wp2
        go_ret
        exact ⟨by rw [HZ.out]; rfl, hB.out⟩
  · have HZ := Lib.hid (ints_none (xs := xs) (ys := ys) (by rw [← hn, ← hn']; exact hnn))
    have hnb : ((n : Int) == n') = false := by simp; omega
    have hnc : ((n : Int) != n') = true := by simp; omega
    clear hn hn' hR hR' hnn
    go_enter Try.func22, Try.ntmps22
    go_wp2
    go_ret
    exact ⟨by rw [HZ.out]; rfl, Below.refl _ _⟩



end Go.Proofs.Ytjifekdjkjnefaa
