/- Rows of strings in memory, the walk of the law's Same; texts of numbers are unlike. -/
import Derived.Test.YtolhdmlphmnpbaaDoorIf
import Derived.Deep.QuietTactic
import Derived.BigQuiet
import Derived.StillTailTactics
namespace Go.Proofs.YtolhdmlphmnpbaaDoor
open Go.RowKit

theorem bs_toList (l : List UInt8) : (bsB l).toList = l := by rw [Lib.toList_data]; rfl
theorem infoStr : (Tryd.prog.info? 9).map (fun i => (i.zero, i.size, i.bytes)) = some (some (.string ⟨#[]⟩), 1, 16) := by kernel_rfl
/-- The slice value '.slice A xs.length c' reads as the numbers xs; it lies below block B. -/
def RT (w : World) (B : Nat) (A : Option Addr) (xs : List (List UInt8)) : Prop :=
  xs ≠ [] → ∃ b off, A = some ⟨b, off, none⟩ ∧ b < B ∧ ∀ k, k < xs.length → w.cell? ⟨b, off + k, none⟩ = some (.string (bsB (xs[k]?.getD [])))
theorem RT.below {w w' : World} {B : Nat} {A : Option Addr} {xs : List (List UInt8)} (h : RT w B A xs) (hb : Below B w w') : RT w' B A xs := fun hn => by
  obtain ⟨b, off, e, hlt, hc⟩ := h hn
  exact ⟨b, off, e, hlt, fun k hk => (hb.cell (p := ⟨b, off + k, none⟩) hlt).trans (hc k hk)⟩
theorem RT.more {w : World} {B B' : Nat} {A : Option Addr} {xs : List (List UInt8)} (h : RT w B A xs) (hB : B ≤ B') : RT w B' A xs := fun hn => by
  obtain ⟨b, off, e, hlt, hc⟩ := h hn
  exact ⟨b, off, e, Nat.lt_of_lt_of_le hlt hB, hc⟩
theorem RT.past {w w' : World} {A : Option Addr} {xs : List (List UInt8)} (h : RT w w.heap.size A xs) (hb : Below w.heap.size w w') : RT w' w'.heap.size A xs := (h.below hb).more hb.size
theorem take_snocS (xs : List (List UInt8)) (k : Nat) (h : k < xs.length) : xs.take (k + 1) = xs.take k ++ [xs[k]?.getD []] := by
  rw [List.take_succ_eq_append_getElem h, List.getElem?_eq_getElem h]; rfl
theorem grown_of_below {w w' : World} {row : Option Nat} (h : Below w.heap.size w w') : w.grownBy w' row := ⟨h.os, h.tape, h.output, h.size, fun k hk _ => h.block k hk⟩
theorem own_mono {w : World} {B B' : Nat} {e : TypeId} {z : Nat} {v : Value} {n : Nat} {L : List Value} (h : w.ownsRow B e z v n L) (hb : B' ≤ B) : w.ownsRow B' e z v n L :=
  ⟨h.1, h.2.imp id fun ⟨g, cap, cur, a1, a2, a3⟩ => ⟨g, cap, cur, a1, Nat.le_trans hb a2, a3⟩⟩
theorem own_past {w w' : World} {B : Nat} {e : TypeId} {z : Nat} {v : Value} {n : Nat} {L : List Value} (h : w.ownsRow B e z v n L) (hb : Below w.heap.size w w') : w'.ownsRow B e z v n L :=
  h.kept (grown_of_below (row := none) hb) (by cases h' : v.ownBlock <;> simp)

theorem own_form {w : World} {base : Nat} {e : TypeId} {size : Nat} {v : Value} {k : Nat} {xs : List Value} (h : w.ownsRow base e size v k xs) :
    ∃ A c, v = .slice A k c ∧ (0 < k → ∃ g, A = some ⟨g, 0, none⟩) := by
  rcases h.2 with ⟨rfl, rfl⟩ | ⟨g, cap, cur, rfl, _⟩
  · exact ⟨none, 0, rfl, fun h => by omega⟩
  · exact ⟨_, cap, rfl, fun _ => ⟨g, rfl⟩⟩
/-- A row of the call's own reads as its numbers. -/
theorem RT.of_own {w : World} {base n c : Nat} {A : Option Addr} {xs : List (List UInt8)} (h : w.ownsRow base 9 1 (.slice A n c) n (xs.map fun l => Value.string (bsB l))) : RT w w.heap.size A xs := fun hn => by
  have hl : xs.length = n := by have := h.1; simpa using this
  obtain ⟨A', c', e, hA⟩ := own_form h
  injection e with e1 _ _
  subst e1
  obtain ⟨g, rfl⟩ := hA (by rw [← hl]; exact List.length_pos_iff.2 hn)
  refine ⟨g, 0, rfl, (h.lt g rfl).2, fun k hk => ?_⟩
  rw [Nat.zero_add, h.cellAt k (by omega), List.getElem?_map, List.getElem?_eq_getElem hk]
  rfl

def strsB (xs ys : List (List UInt8)) : Bool := decide (xs = ys)
theorem strs_none {xs ys : List (List UInt8)} (h : xs.length ≠ ys.length) : strsB xs ys = false := decide_eq_false fun e => h (by rw [e])
theorem strs_some {xs ys : List (List UInt8)} (k : Nat) (h : xs[k]?.getD [] ≠ ys[k]?.getD []) : strsB xs ys = false := decide_eq_false fun e => h (by rw [e])
theorem strs_all {xs ys : List (List UInt8)} (k : Nat) (h : xs.take k = ys.take k) (h1 : xs.length ≤ k) (h2 : ys.length ≤ k) : strsB xs ys = true :=
  decide_eq_true (by rw [← List.take_of_length_le h1, h, List.take_of_length_le h2])
theorem take_strs {xs ys : List (List UInt8)} (k : Nat) (h : xs.take k = ys.take k) (h1 : k < xs.length) (h2 : k < ys.length) (e : xs[k]?.getD [] = ys[k]?.getD []) : xs.take (k + 1) = ys.take (k + 1) := by
  rw [take_snocS xs k h1, take_snocS ys k h2, h, e]

set_option maxRecDepth 100000 in
set_option maxHeartbeats 400000 in
theorem strs_any (A A' : Option Addr) (xs ys : List (List UInt8)) (n n' c c' : Nat) (hn : n = xs.length) (hn' : n' = ys.length) (h63 : n ≤ 9223372036854775807) (w : World) (hR : RT w w.heap.size A xs) (hR' : RT w w.heap.size A' ys) :
    Calls Tryd.prog 13 #[.slice A n c, .slice A' n' c'] w fun e w' => e = .returned (.bool (strsB xs ys)) ∧ Below w.heap.size w w' := by
  by_cases hnn : n = n'
  · have HN := Lib.hid hn
    have HN' := Lib.hid (hnn.trans hn')
    have HR := Lib.hid hR
    have HR' := Lib.hid hR'
    subst hnn
    clear hn hn' hR hR'
    go_enter Tryd.func13, Tryd.ntmps13
    go_wp2
    go_loopw [5] (fun i wr => ∃ k : Nat, k ≤ n ∧ i = .int .i64 k ∧ Hid (xs.take k = ys.take k) ∧ Hid (Below w.heap.size w wr)) (fun i _ => n - (intOf i).toNat)
    case atStart => exact ⟨0, Nat.zero_le _, rfl, Lib.hid rfl, Lib.hid (Below.refl _ _)⟩
    case round =>
      obtain ⟨k, hk, rfl, HK, hB⟩ := hrel
      by_cases hlt : k < n
      · obtain ⟨b, off, e, hblt, hc⟩ := HR.out (fun e => by have := HN.out; rw [e] at this; simp at this; omega)
        obtain ⟨b', off', e', hblt', hc'⟩ := HR'.out (fun e => by have := HN'.out; rw [e] at this; simp at this; omega)
        subst e; subst e'
        have hck : wr.cell? ⟨b, off + k, none⟩ = some (.string (bsB (xs[k]?.getD []))) := (hB.out.cell (p := ⟨b, off + k, none⟩) hblt).trans (hc k (HN.out ▸ hlt))
        have hck' : wr.cell? ⟨b', off' + k, none⟩ = some (.string (bsB (ys[k]?.getD []))) := (hB.out.cell (p := ⟨b', off' + k, none⟩) hblt').trans (hc' k (HN'.out ▸ hlt))
        have hli : (k : Int) < n := by omega
        have HNE : Hid (xs[k]?.getD [] ≠ ys[k]?.getD [] → strsB xs ys = false) := Lib.hid (strs_some k)
        have HEQ : Hid (xs[k]?.getD [] = ys[k]?.getD [] → xs.take (k + 1) = ys.take (k + 1)) := Lib.hid (take_strs k HK.out (HN.out ▸ hlt) (HN'.out ▸ hlt))
        clear hc hc' HR HR' HN HN' hblt hblt' HK
        generalize xs[k]?.getD [] = x at *
        generalize ys[k]?.getD [] = y at *
        go_wp2
        go_still_tail 8, (by kernel_rfl)
        change wpList _ _ _ _ _ wr.drew
        have hBd : Hid (Below w.heap.size w wr.drew) := Lib.hid hB.out.drew
        clear hck hck' hB
        generalize wr.drew = w2 at *
        by_cases hxy : x = y
        · have HZ := Lib.hid (HEQ.out hxy)
          clear HEQ HNE
          have hxb : ((bsB x).toList == (bsB y).toList) = true := by rw [bs_toList, bs_toList, hxy]; exact beq_self_eq_true _
          clear hxy
          go_wp2
          go_roundw
          case rel => exact ⟨k + 1, hlt, by go_num, HZ, hBd⟩
          case measure => simp [intOf]; omega
        · have HZ := Lib.hid (HNE.out hxy)
          clear HEQ HNE
          have hxb : ((bsB x).toList == (bsB y).toList) = false := by rw [bs_toList, bs_toList]; exact beq_false_of_ne hxy
          clear hxy
          go_wp2
          go_ret
          exact ⟨by rw [HZ.out]; rfl, hBd.out⟩
      · have : k = n := by omega
        subst this
        have HZ := Lib.hid (strs_all k HK.out (by rw [← HN.out]; exact Nat.le_refl _) (by rw [← HN'.out]; exact Nat.le_refl _))
        clear HK
        go_wp2
        go_ret
        exact ⟨by rw [HZ.out]; rfl, hB.out⟩
  · have HZ := Lib.hid (strs_none (xs := xs) (ys := ys) (by rw [← hn, ← hn']; exact hnn))
    have hnb : ((n : Int) == n') = false := by simp; omega
    have hnc : ((n : Int) != n') = true := by simp; omega
    clear hn hn' hR hR' hnn
    go_enter Tryd.func13, Tryd.ntmps13
    go_wp2
    go_ret
    exact ⟨by rw [HZ.out]; rfl, Below.refl _ _⟩




theorem dec_neM (u : Nat) : Lib.decDigits u ≠ [] := by
  rw [Lib.decDigits]
  split <;> simp
theorem dec_headM (u : Nat) : ∀ x ∈ Lib.decDigits u, 48 ≤ x.toNat ∧ x.toNat ≤ 57 := by
  induction u using Nat.strongRecOn with
  | _ u ih =>
    intro x hx
    rw [Lib.decDigits] at hx
    by_cases h : u < 10
    · rw [dif_pos h] at hx
      rw [List.mem_singleton.1 hx, dec_byte _ (by omega)]
      omega
    · rw [dif_neg h] at hx
      rcases List.mem_append.1 hx with h1 | h1
      · exact ih (u / 10) (by omega) x h1
      · rw [List.mem_singleton.1 h1, dec_byte _ (by omega)]
        omega
theorem byte_inj {a b : Nat} (ha : a < 256) (hb : b < 256) (h : UInt8.ofNat a = UInt8.ofNat b) : a = b := by
  have := congrArg UInt8.toNat h
  rwa [dec_byte _ ha, dec_byte _ hb] at this
theorem dec_inj : ∀ (u v : Nat), Lib.decDigits u = Lib.decDigits v → u = v := by
  intro u
  induction u using Nat.strongRecOn with
  | _ u ih =>
    intro v h
    rw [Lib.decDigits, Lib.decDigits.eq_def v] at h
    by_cases h1 : u < 10
    · by_cases h2 : v < 10
      · rw [dif_pos h1, dif_pos h2] at h
        have := byte_inj (by omega) (by omega) (List.cons.inj h).1
        omega
      · rw [dif_pos h1, dif_neg h2] at h
        have := congrArg List.length h
        have h3 := List.length_pos_iff.2 (dec_neM (v / 10))
        rw [List.length_append] at this
        simp only [List.length_cons, List.length_nil] at this
        omega
    · by_cases h2 : v < 10
      · rw [dif_neg h1, dif_pos h2] at h
        have := congrArg List.length h
        have h3 := List.length_pos_iff.2 (dec_neM (u / 10))
        rw [List.length_append] at this
        simp only [List.length_cons, List.length_nil] at this
        omega
      · rw [dif_neg h1, dif_neg h2] at h
        obtain ⟨e1, e2⟩ := List.append_inj' h rfl
        have a1 := ih (u / 10) (by omega) (v / 10) e1
        have a2 := byte_inj (by omega) (by omega) (List.cons.inj e2).1
        omega
theorem itoa_head (n : Int) : ∀ x ∈ Lib.itoa n, x ≠ 63 := by
  intro x hx e
  subst e
  unfold Lib.itoa at hx
  split at hx
  · rcases List.mem_cons.1 hx with h | h
    · exact absurd h (by decide)
    · have := (dec_headM _ _ h).2
      exact absurd this (by decide)
  · have := (dec_headM _ _ hx).2
    exact absurd this (by decide)
theorem itoa_inj {m n : Int} (h : Lib.itoa m = Lib.itoa n) : m = n := by
  have key : ∀ (a b : Nat), Lib.decDigits a ≠ 45 :: Lib.decDigits b := fun a b e => by
    have := (dec_headM a 45 (by rw [e]; exact List.mem_cons_self ..)).1
    exact absurd this (by decide)
  unfold Lib.itoa at h
  by_cases h1 : m < 0 <;> by_cases h2 : n < 0
  · rw [if_pos h1, if_pos h2] at h
    have := dec_inj _ _ (List.cons.inj h).2
    omega
  · rw [if_pos h1, if_neg h2] at h
    exact absurd h.symm (key _ _)
  · rw [if_neg h1, if_pos h2] at h
    exact absurd h (key _ _)
  · rw [if_neg h1, if_neg h2] at h
    have := dec_inj _ _ h
    omega
theorem textM_inj {p q : Bool} {m n : Int} (h : textM p m = textM q n) : p = q ∧ m = n := by
  have key : ∀ (a b : Int), Lib.itoa a ≠ [63] ++ Lib.itoa b := fun a b e => itoa_head a 63 (by rw [e]; simp) rfl
  cases p <;> cases q <;> simp only [textM, if_true, if_false, Bool.false_eq_true, List.nil_append] at h
  · exact ⟨rfl, itoa_inj h⟩
  · exact absurd h (key _ _)
  · exact absurd h.symm (key _ _)
  · exact ⟨rfl, itoa_inj (List.append_cancel_left h)⟩
/-- The texts of all modes. -/
def textL : List (List UInt8) := [[52], [50, 48], [63, 49], [63, 53], [63, 54], [63, 55], [63, 50, 53], [63, 52, 55], [63, 54, 54], [63, 49, 48, 48, 48], [63, 49, 48, 48, 50], [63, 49, 48, 48, 51], [63, 49, 48, 48, 52], [63, 49, 48, 48, 54], [63, 49, 48, 52, 55], [63, 49, 48, 52, 56], [63, 49, 48, 52, 57], [63, 50, 48, 48, 52]]
theorem textM_at (k : Nat) (hk : k < 18) : textM (pM k) (nM k) = textL[k]?.getD [] := by
  rcases (by omega : k = 0 ∨ k = 1 ∨ k = 2 ∨ k = 3 ∨ k = 4 ∨ k = 5 ∨ k = 6 ∨ k = 7 ∨ k = 8 ∨ k = 9 ∨ k = 10 ∨ k = 11 ∨ k = 12 ∨ k = 13 ∨ k = 14 ∨ k = 15 ∨ k = 16 ∨ k = 17) with rfl | rfl | rfl | rfl | rfl | rfl | rfl | rfl | rfl | rfl | rfl | rfl | rfl | rfl | rfl | rfl | rfl | rfl <;> simp [textM, pM, nM, modesL, textL, Lib.itoa, Lib.decDigits]
def tx (k : Nat) : List UInt8 := textM (pM k) (nM k)
theorem tx_name (k : Nat) (p : Bool) (n : Int) : (tx k == textM p n) = (pM k == p && nM k == n) := by
  by_cases h : pM k = p ∧ nM k = n
  · obtain ⟨rfl, rfl⟩ := h
    simp [tx]
  · have h1 : ¬ tx k = textM p n := fun e => h (textM_inj e)
    have h2 : (tx k == textM p n) = false := by simpa using h1
    rw [h2]
    by_cases h3 : pM k = p
    · have h4 : ¬ nM k = n := fun e => h ⟨h3, e⟩
      simp [h3, h4]
    · simp [h3]
theorem modes_apart : ∀ (i j : Fin 18), pM i = pM j → nM i = nM j → i = j := by decide
theorem tx_place (k : Nat) (hk : k < 18) (p : Bool) (n : Int) : (tx k == textM p n) = decide ((k : Int) = placeZ p n) := by
  rw [tx_name]
  rcases posQ_cases (fun k => pM k == p && nM k == n) with ⟨j, hj, hq, hz, _⟩ | ⟨hz, hf⟩
  · change placeZ p n = j at hz
    rw [hz]
    simp only [Bool.and_eq_true, beq_iff_eq] at hq
    by_cases e : k = j
    · subst e
      simp [hq.1, hq.2]
    · have e1 : ¬ (k : Int) = j := by omega
      rw [decide_eq_false e1]
      by_cases h1 : pM k = p
      · by_cases h2 : nM k = n
        · have := modes_apart ⟨k, hk⟩ ⟨j, hj⟩ (h1.trans hq.1.symm) (h2.trans hq.2.symm)
          exact absurd (congrArg Fin.val this) e
        · simp [h2]
      · simp [h1]
  · change placeZ p n = -1 at hz
    rw [hz, hf k hk, decide_eq_false (by omega)]
/-- The texts of the modes that are set. -/
def listL (f : Nat → Bool) : List (List UInt8) := ((List.range 18).filter f).map tx
/-- Is a mode's text among them? -/
theorem listL_has (f : Nat → Bool) (p : Bool) (n : Int) : (listL f).contains (textM p n) = isS f (placeZ p n) := by
  have e1 : (listL f).contains (textM p n) = (List.range 18).any fun k => f k && decide ((k : Int) = placeZ p n) := by
    rw [Bool.eq_iff_iff]
    simp only [listL, List.contains_iff_mem, List.mem_map, List.mem_filter, List.mem_range, List.any_eq_true, Bool.and_eq_true, decide_eq_true_eq]
    constructor
    · rintro ⟨k, ⟨hk, hf⟩, ht⟩
      have := tx_place k hk p n
      rw [ht, beq_self_eq_true] at this
      exact ⟨k, hk, hf, of_decide_eq_true this.symm⟩
    · rintro ⟨k, hk, hf, hz⟩
      have := tx_place k hk p n
      rw [decide_eq_true hz] at this
      exact ⟨k, ⟨hk, hf⟩, by simpa using this⟩
  rw [e1, Bool.eq_iff_iff]
  simp only [isS, List.any_eq_true, Bool.and_eq_true, decide_eq_true_eq, List.mem_range]
  constructor
  · rintro ⟨k, hk, hf, hz⟩
    rw [← hz]
    exact ⟨by omega, by simpa using hf⟩
  · rintro ⟨h0, hf⟩
    have := placeZ_lt p n
    exact ⟨(placeZ p n).toNat, by omega, hf, by omega⟩
end Go.Proofs.YtolhdmlphmnpbaaDoor
